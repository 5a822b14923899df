import PyProof.Rows.All
import Wide.All
import OpenK.AllK
import Wide.FinOn
import Lean
import PyProof.EqAt
import PyProof.EqKinds
import PyProof.TupleCall
import PyProof.NeKinds
import KE.KMinBuiltin
import PyProof.Rows.CallKwBuiltin
import KE.KDictList
import PyProof.ZipIter
import PyProof.EnumFor
import PyProof.EnumMake
import PyProof.EnumStmt
import PyProof.Rows.Range3
import KE.KItemsList
import PyProof.ListRange
import KE.KIsAll
import PyProof.TupleIter
import PyProof.StationsW
import OpenK.KOwn
import PyProof.RulesDel
import PyProof.ExcArgsOwn
import PyProof.ExcAttrAll.ValueError
import KE.IntBitsLaws
import PyProof.IsRules
import PyProof.SetKind
import PyProof.Rows.SetFrom
import PyProof.CollectWalk
import PyProof.ListNew
import PyProof.Seq
import KE.KSortedM
import PySem.Challenge.RW_shiftsums_k16_depths_and_layers
section
set_option Elab.async false
set_option linter.all false
set_option maxRecDepth 100000
namespace L2
open PySem PySem.Spec PyProof.Rows
abbrev Key := Sum Int Str
def keyIs : Key → Value → Bool
  | .inl k, v => Value.isInt k v
  | .inr x, v => Value.isStrOf x v
def keyH (w : World) : Key → Int
  | .inl k => hashInt k
  | .inr x => hashStr w x
theorem keyIs_shape : ∀ {k : Key} {v : Value}, keyIs k v = true → (∃ i t, k = Sum.inl i ∧ v = Value.int i t) ∨ (∃ x t, k = Sum.inr x ∧ v = Value.str x t)
  | .inl i, v, h => by
    obtain ⟨t, e⟩ := Value.isInt_shape (k := i) (v := v) h
    exact .inl ⟨i, t, rfl, e⟩
  | .inr x, v, h => by
    obtain ⟨t, e⟩ := Value.isStrOf_shape (x := x) (v := v) h
    exact .inr ⟨x, t, rfl, e⟩
theorem key_ll (a b : Int) : decide ((Sum.inl a : Key) = Sum.inl b) = (a == b) := by
  by_cases e : a = b
  · subst e; simp
  · have h : ¬ (Sum.inl a : Key) = Sum.inl b := fun q => e (Sum.inl.inj q)
    rw [decide_eq_false h]
    exact (beq_eq_false_iff_ne.mpr e).symm
theorem key_rr (a b : Str) : decide ((Sum.inr a : Key) = Sum.inr b) = decide (a = b) := by
  by_cases e : a = b
  · subst e; simp
  · have h : ¬ (Sum.inr a : Key) = Sum.inr b := fun q => e (Sum.inr.inj q)
    rw [decide_eq_false h, decide_eq_false e]
theorem key_lr (a : Int) (b : Str) : decide ((Sum.inl a : Key) = Sum.inr b) = false := decide_eq_false (fun q => nomatch q)
theorem key_rl (a : Str) (b : Int) : decide ((Sum.inr a : Key) = Sum.inl b) = false := decide_eq_false (fun q => nomatch q)
def mixKind (prog : Program) (w : World) : PySem.KeyKind prog w Key where
  is := keyIs
  hash := keyH w
  inj := fun v a b ha hb => by
    rcases keyIs_shape ha with ⟨i, t, rfl, rfl⟩ | ⟨x, t, rfl, rfl⟩
    · rcases keyIs_shape hb with ⟨j, u, rfl, e⟩ | ⟨y, u, rfl, e⟩
      · injection e with e1 _; rw [e1]
      · exact nomatch e
    · rcases keyIs_shape hb with ⟨j, u, rfl, e⟩ | ⟨y, u, rfl, e⟩
      · exact nomatch e
      · injection e with e1 _; rw [e1]
  byValue := fun k v h => by
    rcases keyIs_shape h with ⟨i, t, rfl, rfl⟩ | ⟨x, t, rfl, rfl⟩ <;> rfl
  pyHash := fun hv h => by
    rcases keyIs_shape hv with ⟨i, t, rfl, rfl⟩ | ⟨x, t, rfl, rfl⟩
    · exact wpAny_pyHash_int h
    · exact wpAny_pyHash_str h
  eqBool := fun hu hv h => by
    rcases keyIs_shape hu with ⟨i, t, rfl, rfl⟩ | ⟨x, t, rfl, rfl⟩
    · rcases keyIs_shape hv with ⟨j, u, rfl, rfl⟩ | ⟨y, u, rfl, rfl⟩
      · rw [key_ll] at h; exact wpAny_eqBool_int h
      · rw [key_lr] at h; exact SeqAt.EqAt.int_str i t y u _ _ _ _ h
    · rcases keyIs_shape hv with ⟨j, u, rfl, rfl⟩ | ⟨y, u, rfl, rfl⟩
      · rw [key_rl] at h; exact SeqAt.EqAt.str_int x t j u _ _ _ _ h
      · rw [key_rr] at h; exact wpAny_eqBool_str h
  «strs» := fun k x t v h => by
    rcases keyIs_shape h with ⟨i, u, rfl, e⟩ | ⟨y, u, rfl, e⟩
    · exact nomatch e
    · injection e with e1 _
      subst e1
      cases v <;> rfl
end L2
namespace L2
open PySem PySem.Spec PyProof.Rows
inductive V where
  | non | bl (b : Bool) | int (i : Int) | str (x : Str) | byt (b : Array UInt8) | flt (b : UInt64) | ref (a : Addr) | ty (n : String)
  deriving DecidableEq
def RelV : V → Value → Prop
  | .non, u => u = Value.none
  | .bl b, u => u = Value.bool b
  | .int i, u => ∃ t, u = Value.int i t
  | .str x, u => ∃ t, u = Value.str x t
  | .byt b, u => ∃ t, u = Value.bytes b t
  | .flt b, u => ∃ t, u = Value.float b t
  | .ref a, u => u = Value.ref a
  | .ty n, u => u = Value.type n
abbrev Vals : List V → List Value → Prop := Paired RelV
theorem Vals.length {xs : List V} {us : List Value} (r : Vals xs us) : xs.length = us.length := Paired.length r
theorem Vals.get : ∀ {xs : List V} {us : List Value} {i : Nat} {x : V}, Vals xs us → xs[i]? = some x → ∃ u, us[i]? = some u ∧ RelV x u
  | _, _, _, _, .nil, e => by simp at e
  | _, _, 0, _, .cons r _, e => by simp at e; subst e; exact ⟨_, rfl, r⟩
  | _, _, i + 1, x, .cons _ t, e => by
    obtain ⟨u, h1, h2⟩ := Vals.get (i := i) (x := x) t (by simpa using e)
    exact ⟨u, by simpa using h1, h2⟩
theorem Vals.set {x : V} {u : Value} (r : RelV x u) : ∀ {xs : List V} {us : List Value} (i : Nat), Vals xs us → Vals (xs.set i x) (us.set i u)
  | _, _, _, .nil => .nil
  | _, _, 0, .cons _ t => .cons r t
  | _, _, i + 1, .cons q t => .cons q (Vals.set r i t)
theorem Vals.append : ∀ {xs ys : List V} {us ws : List Value}, Vals xs us → Vals ys ws → Vals (xs ++ ys) (us ++ ws)
  | _, _, _, _, .nil, s => s
  | _, _, _, _, .cons r t, s => .cons r (Vals.append t s)
def RelO : Option V → Option Value → Prop
  | some v, some u => RelV v u
  | none, none => True
  | _, _ => False
def KV {κ : Type} : List (κ × V) → List (κ × Value) → Prop := Paired fun (p : κ × V) (q : κ × Value) => p.1 = q.1 ∧ RelV p.2 q.2
def kV : Key → V
  | .inl i => .int i
  | .inr x => .str x
inductive HO where
  | lst (xs : List V)
  | tup (xs : List V)
  | dK (kvs : List (Key × V)) | dT (kvs : List (List Key × V))
  | set (S : Int → Bool) (n : Nat)
  | ins (C dx : Addr) (fs : List (Str × V))
  | own (x : Addr)
  | xd (fs : List (Str × V))
  | met (f x : Addr)
  | rng (lo hi : Int)
  | frz (o : Obj) (u : HO)
  | tbl (ps : Array Value)
  | ext (φ : Heap → Prop)
abbrev Hp := Addr → Option HO
def upd (H : Hp) (a : Addr) (o : HO) : Hp := fun b => if b = a then some o else H b
theorem upd_same {H : Hp} {a : Addr} {o : HO} : upd H a o a = some o := by unfold upd; rw [if_pos rfl]
theorem upd_ne {H : Hp} {a b : Addr} {o : HO} (h : b ≠ a) : upd H a o b = H b := by unfold upd; rw [if_neg h]
theorem upd_upd {H : Hp} {a : Addr} {o u : HO} : upd (upd H a o) a u = upd H a u := by
  funext b; unfold upd; split <;> rfl
theorem ne_of {H : Hp} {a b : Addr} {o u : HO} (h : H a = some o) (h' : H b = some u) (d : o ≠ u) : a ≠ b := by
  intro e; subst e; rw [h] at h'; exact d (Option.some.inj h')
theorem ne_of_none {H : Hp} {a b : Addr} {o : HO} (h : H a = some o) (h' : H b = none) : a ≠ b := by
  intro e; subst e; rw [h] at h'; cases h'
section
variable (P : Program) (w : World)
def ObjOk (H : Hp) (h : Heap) (a : Addr) : HO → Prop
  | .lst xs => xs.length ≤ sizeLine ∧ ∃ (its : List Value) (n : Nat), Vals xs its ∧ h.get? a = some { cls := .type "list", data := .seq its.toArray n }
  | .tup xs => xs.length ≤ sizeLine ∧ ∃ its : List Value, Vals xs its ∧ IsTup h a its.toArray
  | .dK kvs => kvs.length ≤ sizeLine ∧ (a == sysModules) = false ∧ ∃ vs, KV kvs vs ∧ h.DictOf (mixKind P w) a vs
  | .dT kvs => kvs.length ≤ sizeLine ∧ (a == sysModules) = false ∧ ∃ xs : List (List Key × Addr × Value),
      Paired (fun (p : List Key × V) (q : List Key × Addr × Value) => p.1 = q.1 ∧ H q.2.1 = some (.tup (p.1.map kV)) ∧ RelV p.2 q.2.2) kvs xs ∧
      ∃ o es ep, h.get? a = some o ∧ o.ExactDict ∧ o.data = .dict es ep ∧ es.toList = xs.map (entryOfKey (tupleKind (mixKind P w))) ∧ (xs.map (·.1)).Nodup
  | .set S n => h.SetOf (intKind P w) a S n
  | .ins C dx fs => H dx = some (.own a) ∧ fs.length ≤ 1000 ∧ dx ≠ a ∧ h.get? a = some (PySem.W.instObj C dx) ∧
      ∃ mA, h.Ns1 dx mA ∧ (∀ f, RelO (fs.lookup f) (mA f)) ∧ PySem.Within mA (fs.map (·.1))
  | .own _ => ∃ o, h.get? a = some o
  | .xd fs => ∃ mA, h.Ns1 a mA ∧ ∀ f, RelO (fs.lookup f) (mA f)
  | .rng lo hi => ∃ t u v, h.get? a = some { cls := .type "range", data := .fields #[.int lo t, .int hi u, .int 1 v] }
  | .frz o u => h.get? a = some o ∧ ObjOk H h a u
  | .tbl ps => h.get? a = some { cls := .none, data := .fields ps }
  | .met f x => h.get? a = some (PySem.W.methodObj (.ref f) (.ref x))
  | .ext φ => φ h ∧ (∃ o, h.get? a = some o) ∧ ∀ h1 h2 : Heap, φ h1 → (∀ o, h1.get? a = some o → h2.get? a = some o) → φ h2
def HOk (H : Hp) (h : Heap) : Prop := ∀ a o, H a = some o → ObjOk P w H h a o
end
section
variable {P : Program} {w : World} {H H' : Hp} {h h' : Heap} {a : Addr} {o : HO}
theorem ObjOk.lt (x : ObjOk P w H h a o) : a < h.objs.size := by
  cases o with
  | lst xs => obtain ⟨_, _, _, _, e⟩ := x; exact Heap.lt_size e
  | tup xs => obtain ⟨_, _, _, p⟩ := x; exact p.lt
  | dK kvs => obtain ⟨_, _, _, _, o, _, _, e, _⟩ := x; exact Heap.lt_size e
  | dT kvs => obtain ⟨_, _, _, _, o, _, _, e, _⟩ := x; exact Heap.lt_size e
  | set S n => obtain ⟨o, _, _, _, e, _⟩ := x; exact Heap.lt_size e
  | ins C dx fs => obtain ⟨_, _, _, e, _⟩ := x; exact Heap.lt_size e
  | own y => obtain ⟨_, e⟩ := x; exact Heap.lt_size e
  | xd fs => obtain ⟨_, ⟨_, _, _, e, _⟩, _⟩ := x; exact Heap.lt_size e
  | rng lo hi => obtain ⟨_, _, _, e⟩ := x; exact Heap.lt_size e
  | frz ob u => obtain ⟨e, _⟩ := x; exact Heap.lt_size e
  | tbl ps => exact Heap.lt_size (show h.get? a = some _ from x)
  | met f y => exact Heap.lt_size (show h.get? a = some _ from x)
  | ext φ => obtain ⟨_, ⟨_, e⟩, _⟩ := x; exact Heap.lt_size e
theorem Paired.mapP {α β : Type} {F G : α → β → Prop} : ∀ {l₁ : List α} {l₂ : List β}, Paired F l₁ l₂ → (∀ a b, F a b → G a b) → Paired G l₁ l₂
  | _, _, .nil, _ => .nil
  | _, _, .cons r t, f => .cons (f _ _ r) (Paired.mapP t f)
theorem ObjOk.stay (x : ObjOk P w H h a o) (k : ∀ b u, (b = a ∨ H b = some (.own a)) → h.get? b = some u → h'.get? b = some u)
    (ho : ∀ b, H b = some (.own a) → H' b = some (.own a)) (ht : ∀ b xs, H b = some (.tup xs) → H' b = some (.tup xs)) : ObjOk P w H' h' a o := by
  induction o with
  | lst xs => obtain ⟨z, its, n, r, e⟩ := x; exact ⟨z, its, n, r, k _ _ (.inl rfl) e⟩
  | tup xs => obtain ⟨z, its, r, ob, e, c⟩ := x; exact ⟨z, its, r, ob, k _ _ (.inl rfl) e, c⟩
  | dK kvs => obtain ⟨z, y, vs, r, ob, es, ep, e, c⟩ := x; exact ⟨z, y, vs, r, ob, es, ep, k _ _ (.inl rfl) e, c⟩
  | dT kvs =>
    obtain ⟨z, y, xs, r, ob, es, ep, e, c⟩ := x
    exact ⟨z, y, xs, Paired.mapP r fun p q z => ⟨z.1, ht _ _ z.2.1, z.2.2⟩, ob, es, ep, k _ _ (.inl rfl) e, c⟩
  | set S n => obtain ⟨ob, es, ep, t, e, c⟩ := x; exact ⟨ob, es, ep, t, k _ _ (.inl rfl) e, c⟩
  | ins C dx fs =>
    obtain ⟨d, z, ne, e, mA, ⟨od, es, ep, e2, c⟩, r⟩ := x
    exact ⟨ho _ d, z, ne, k _ _ (.inl rfl) e, mA, ⟨od, es, ep, k _ _ (.inr d) e2, c⟩, r⟩
  | own y => obtain ⟨ob, e⟩ := x; exact ⟨ob, k _ _ (.inl rfl) e⟩
  | xd fs => obtain ⟨mA, ⟨od, es, ep, e, c⟩, r⟩ := x; exact ⟨mA, ⟨od, es, ep, k _ _ (.inl rfl) e, c⟩, r⟩
  | rng lo hi => obtain ⟨t, u, v, e⟩ := x; exact ⟨t, u, v, k _ _ (.inl rfl) e⟩
  | frz ob u ih => obtain ⟨e, q⟩ := x; exact ⟨k _ _ (.inl rfl) e, ih q⟩
  | tbl ps =>
    have e : h.get? a = some { cls := .none, data := .fields ps } := x
    show h'.get? a = some { cls := .none, data := .fields ps }
    exact k a _ (.inl rfl) e
  | met f y =>
    have e : h.get? a = some (PySem.W.methodObj (.ref f) (.ref y)) := x
    show h'.get? a = some (PySem.W.methodObj (.ref f) (.ref y))
    exact k a _ (.inl rfl) e
  | ext φ => obtain ⟨p, ⟨o, e⟩, st⟩ := x; exact ⟨st _ _ p fun o q => k _ _ (.inl rfl) q, ⟨o, k _ _ (.inl rfl) e⟩, st⟩
theorem HOk.lt (x : HOk P w H h) (e : H a = some o) : a < h.objs.size := (x a o e).lt
theorem HOk.fresh (x : HOk P w H h) (e : h.objs.size ≤ a) : H a = none := by
  cases q : H a with
  | none => rfl
  | some u => exact absurd (Nat.lt_of_lt_of_le (x.lt q) e) (Nat.lt_irrefl _)
theorem HOk.kept (x : HOk P w H h) (k : ∀ b u, h.get? b = some u → h'.get? b = some u) : HOk P w H h' := fun a o e =>
  (x a o e).stay (fun b u _ q => k b u q) (fun _ q => q) fun _ _ q => q
theorem HOk.laid (x : HOk P w H h) (k : ∀ b u, h.get? b = some u → h'.get? b = some u) (hp : h.objs.size ≤ a) (new : ObjOk P w (upd H a o) h' a o) : HOk P w (upd H a o) h' := fun b u e => by
  have hn := x.fresh hp
  by_cases hb : b = a
  · subst hb; rw [upd_same] at e; cases e; exact new
  · rw [upd_ne hb] at e
    exact (x b u e).stay (fun c v _ q => k c v q) (fun c q => by rw [upd_ne (ne_of_none q hn)]; exact q) fun c xs q => by rw [upd_ne (ne_of_none q hn)]; exact q
end
def Rd (H : Hp) (a : Addr) (u : HO) : Prop := H a = some u ∨ ∃ o, H a = some (.frz o u)
theorem Rd.ok {P : Program} {w : World} {H : Hp} {h : Heap} {a : Addr} {u : HO} (r : Rd H a u) (x : HOk P w H h) : ObjOk P w H h a u := by
  rcases r with r | ⟨o, r⟩
  · exact x a u r
  · obtain ⟨_, q⟩ := x a _ r
    exact q
def Mut : Option HO → Prop
  | some (.lst _) => True
  | some (.dK _) => True
  | some (.dT _) => True
  | some (.set _ _) => True
  | some (.ins _ _ _) => True
  | some (.ext _) => True
  | _ => False
section
variable {P : Program} {w : World} {H : Hp} {h h' : Heap} {x e : Addr} {o' : HO}
theorem HOk.write (ok : HOk P w H h) (mu : Mut (H x)) (he : e = x ∨ H e = some (.own x)) (k : ∀ b u, b ≠ e → h.get? b = some u → h'.get? b = some u) (heo : ∃ u, h'.get? e = some u)
    (new : ObjOk P w (upd H x o') h' x o') : HOk P w (upd H x o') h' := fun b u q => by
  have nown : ∀ c y, H c = some (.own y) → c ≠ x := fun c y r z => by subst z; rw [r] at mu; exact mu
  have ntup : ∀ c xs, H c = some (.tup xs) → c ≠ x := fun c xs r z => by subst z; rw [r] at mu; exact mu
  by_cases hb : b = x
  · subst hb; rw [upd_same] at q; cases q; exact new
  · rw [upd_ne hb] at q
    by_cases hbe : b = e
    · have q' : H b = some (.own x) := by
        rcases he with z | z
        · exact absurd (hbe.trans z) hb
        · rw [hbe]; exact z
      rw [q] at q'; cases q'
      obtain ⟨v, hv⟩ := heo
      exact ⟨v, by rw [hbe]; exact hv⟩
    · refine (ok b u q).stay (fun c v hc r => k c v ?_ r) (fun c r => by rw [upd_ne (nown c b r)]; exact r) fun c xs r => by rw [upd_ne (ntup c xs r)]; exact r
      rcases hc with rfl | hc
      · exact hbe
      · rintro rfl
        rcases he with z | z
        · exact nown c b hc z
        · rw [hc] at z; cases z; exact hb rfl
end
structure Un (fs ex : List Addr) (H H' : Hp) (h h' : Heap) : Prop where
  keep : ∀ b o, h.get? b = some o → H b = none → b ∉ fs → b ∉ ex → h'.get? b = some o
  slot : ∀ b o, h.get? b = some o → H b = none → b ∈ fs → b ∉ ex → ∃ sl, h'.get? b = some { o with slots := sl }
  free : ∀ b o, h.get? b = some o → H b = none → b ∉ ex → H' b = none
  there : ∀ b o, h.get? b = some o → b ∉ ex → ∃ o', h'.get? b = some o'
  tups : ∀ b xs, H b = some (.tup xs) → H' b = some (.tup xs)
  frzs : ∀ b o u, H b = some (.frz o u) → H' b = some (.frz o u)
  tbls : ∀ b ps, H b = some (.tbl ps) → ∃ more, H' b = some (.tbl (ps ++ more))
section
variable {fs fs' ex ex' : List Addr} {H H1 H2 : Hp} {h h1 h2 h' : Heap} {a x e : Addr} {o : HO}
theorem Un.any (u : Un fs ex H H1 h h1) {b : Addr} {ob : Obj} (q : h.get? b = some ob) (n : H b = none) (hx : b ∉ ex) : ∃ sl, h1.get? b = some { ob with slots := sl } := by
  by_cases hb : b ∈ fs
  · exact u.slot b ob q n hb hx
  · exact ⟨ob.slots, u.keep b ob q n hb hx⟩
theorem Un.kept (k : ∀ b u, h.get? b = some u → h'.get? b = some u) : Un fs ex H H h h' :=
  ⟨fun b ob q _ _ _ => k b ob q, fun b ob q _ _ _ => ⟨ob.slots, k b ob q⟩, fun _ _ _ n _ => n, fun b ob q _ => ⟨ob, k b ob q⟩, fun _ _ q => q, fun _ _ _ q => q, fun _ ps q => ⟨#[], by rw [q]; simp⟩⟩
theorem Un.refl : Un fs ex H H h h := Un.kept fun _ _ q => q
theorem Un.laid (k : ∀ b u, h.get? b = some u → h'.get? b = some u) (hp : h.objs.size ≤ a) (hn : H a = none) : Un fs ex H (upd H a o) h h' where
  keep := fun b u q _ _ _ => k b u q
  slot := fun b u q _ _ _ => ⟨u.slots, k b u q⟩
  free := fun b u q n _ => by rw [upd_ne (Nat.ne_of_lt (Nat.lt_of_lt_of_le (Heap.lt_size q) hp))]; exact n
  there := fun b u q _ => ⟨u, k b u q⟩
  tups := fun b xs q => by rw [upd_ne (ne_of_none q hn)]; exact q
  frzs := fun b u xs q => by rw [upd_ne (ne_of_none q hn)]; exact q
  tbls := fun b ps q => ⟨#[], by rw [upd_ne (ne_of_none q hn), q]; simp⟩
theorem Un.write (mu : Mut (H x)) (he : e = x ∨ H e = some (.own x)) (k : ∀ b u, b ≠ e → h.get? b = some u → h'.get? b = some u) (heo : ∃ u, h'.get? e = some u) : Un fs ex H (upd H x o) h h' := by
  have hx : ∀ b, H b = none → b ≠ x := fun b n z => by subst z; rw [n] at mu; exact mu
  have hb : ∀ b, H b = none → b ≠ e := fun b n z => by
    subst z
    rcases he with r | r
    · exact hx b n r
    · rw [n] at r; cases r
  have hm : ∀ b u, H b = some u → ¬ Mut (some u) → b ≠ x := fun b u q nm z => by subst z; rw [q] at mu; exact nm mu
  refine ⟨fun b u q n _ _ => k b u (hb b n) q, fun b u q n _ _ => ⟨u.slots, k b u (hb b n) q⟩, fun b u q n _ => by rw [upd_ne (hx b n)]; exact n, fun b u q _ => ?_,
    fun b xs q => by rw [upd_ne (hm b _ q fun z => z)]; exact q, fun b u xs q => by rw [upd_ne (hm b _ q fun z => z)]; exact q, fun b ps q => ⟨#[], by rw [upd_ne (hm b _ q fun z => z), q]; simp⟩⟩
  by_cases hbe : b = e
  · subst hbe; exact heo
  · exact ⟨u, k b u hbe q⟩
end
def trk (h : Heap) (H : Hp) : List Addr := (List.range h.objs.size).filter fun a => (H a).isSome
def hidT (h : Heap) (H : Hp) : Heap := PySem.W.hideAll h (trk h H)
theorem hidT_size (h : Heap) (H : Hp) : (hidT h H).objs.size = h.objs.size := PySem.W.hideAll_size _ _
theorem hidT_get {h : Heap} {H : Hp} {b : Addr} {o : Obj} (e : h.get? b = some o) (n : H b = none) : (hidT h H).get? b = some o :=
  PySem.W.hideAll_get _ e fun hm => by
    have q : (H b).isSome = true := (List.mem_filter.mp hm).2
    rw [n] at q; simp at q
theorem of_hidT {h : Heap} {H : Hp} {b : Addr} {o : Obj} (e : (hidT h H).get? b = some o) : h.get? b = some o ∧ H b = none := by
  have e' : h.get? b = some o := PySem.W.of_hideAll (trk h H) e
  refine ⟨e', ?_⟩
  cases q : H b with
  | none => rfl
  | some x =>
    have hm : b ∈ trk h H := List.mem_filter.mpr ⟨List.mem_range.mpr (Heap.lt_size e'), by simp [q]⟩
    have z : (hidT h H).get? b = none := PySem.W.hideAll_none (trk h H) hm
    rw [z] at e; cases e
def allNews (g h : Heap) (L : Addr) : List (Addr × Obj) := (List.range h.objs.size).filterMap fun a => if a = L ∨ (g.get? a).isSome = true then none else (h.get? a).map fun o => (a, o)
def rest (g h : Heap) (L d : Addr) : List (Addr × Obj) := (allNews g h L).filter fun p => decide (p.1 ≠ d)
end L2
namespace L2
open PySem PySem.Spec PyProof.Rows
structure Mod (K : PySem.W.Frag) (mg : Str → Option Value) (base : Heap) : Prop where
  kin : K.In base
  glob : base.Ns mainGlobals mg
  blt : ∃ mb, base.Ns builtinsNs mb ∧ ∀ x : Str, x ≠ "__name__" → mb x = bootBuiltins x
  nolimit : base.NoLimit
structure Cx where
  prog : Program
  w : World
  K : PySem.W.Frag
  mg : Str → Option Value
  base : Heap
  A : Around
  N : List Str
  s₀ : Shared
  H₀ : Hp
  env : Env
  outer : List Env
  stack : List Env
  ex : List Addr
  fn : Str → Bool
  calm : Bool
  pn : List (Addr × Obj)
  xe : Value → Shared → Prop
def frs (l : List Env) : List Addr := l.filterMap (·.frame)
abbrev Cx.fs (X : Cx) : List Addr := frs X.outer
def Vis (sc : Scope) (x : Str) : Prop := sc.names.lookup x = some .local ∨ sc.names.lookup x = some .cell ∨ sc.names.lookup x = some .free
def Loc (sc : Scope) (x : Str) : Prop := sc.names.lookup x = some .local ∨ sc.names.lookup x = some .cell
def Look (env : Env) (h : Heap) (m : Str → Option Value) (x : Str) (u : Value) : Prop :=
  (env.kindOf x = some .local ∧ m x = some u) ∨ ((env.kindOf x = some .cell ∨ env.kindOf x = some .free) ∧ ∃ c, env.cells.lookup x = some c ∧ h.IsCell c (some u))
structure Cx.Ok (X : Cx) : Prop where
  mod : Mod X.K X.mg X.base
  kind : X.env.scope.kind = .function
  glob : X.env.globals = mainGlobals
  blt : X.env.builtins = builtinsNs
  above : X.s₀.heap.objs.size ≤ X.env.locals
  inj : ∀ x y c, X.env.cells.lookup x = some c → X.env.cells.lookup y = some c → x = y
  has : ∀ x, (X.env.kindOf x = some .cell ∨ X.env.kindOf x = some .free) → ∃ c, X.env.cells.lookup x = some c
  cab : ∀ x c, X.fn x = true → X.env.cells.lookup x = some c → X.s₀.heap.objs.size ≤ c
  hd : X.calm = true → X.A.handled = none
  frames : X.A.frames = some X.stack
  stk : X.stack = X.outer ∨ (X.stack = X.env :: X.outer ∧ X.env.frame = some X.env.locals)
  exf : ∀ b ∈ X.ex, b ≠ X.env.locals ∧ ∀ x c, X.env.cells.lookup x = some c → c ≠ b
  bs : ∀ b o, X.base.get? b = some o → X.s₀.heap.get? b = some o ∧ X.H₀ b = none
  bsz : X.base.objs.size ≤ X.s₀.heap.objs.size
  noex : ∀ b o, X.base.get? b = some o → b ∉ X.ex
  exfs : ∀ b ∈ X.ex, b ∉ X.fs
  funs : X.s₀.heap.FunFrames X.base X.outer
  frf : ∀ b ∈ X.fs, X.H₀ b = none
structure Inv (X : Cx) (pins : List (Addr × Obj)) (σ : List (Option V)) (H : Hp) (s : Shared) : Prop where
  ok : X.Ok
  os : s.os = X.s₀.os
  bare : AllBare s.gens
  base : Un X.fs X.ex X.H₀ H X.s₀.heap s.heap
  loc : ∃ m, s.heap.Ns X.env.locals m ∧ ∀ (i : Nat) (x : Str) (v : V), X.N[i]? = some x → σ[i]? = some (some v) → Vis X.env.scope x → ∃ u, RelV v u ∧ Look X.env s.heap m x u
  cell : ∀ x c, X.env.cells.lookup x = some c → ∃ v, s.heap.IsCell c v
  free : H X.env.locals = none
  freeC : ∀ x c, X.env.cells.lookup x = some c → H c = none
  pin : ∀ p ∈ X.pn ++ pins, s.heap.get? p.1 = some p.2 ∧ H p.1 = none ∧ p.1 ≠ X.env.locals ∧ p.1 ∉ X.fs ∧ ∀ v, p.2.data ≠ .cell v
  hok : HOk X.prog X.w H s.heap
  len : σ.length = X.N.length
section
variable {X : Cx} {pins : List (Addr × Obj)} {σ : List (Option V)} {H H' : Hp} {s : Shared} {h' : Heap}
theorem Cx.Ok.nofr (ok : X.Ok) {b : Addr} {o : Obj} (e : X.base.get? b = some o) : b ∉ X.fs := fun hb => by
  have := (ok.funs.mem hb).1
  rw [e] at this; cases this
theorem Inv.bs (I : Inv X pins σ H s) : ∀ b o, X.base.get? b = some o → s.heap.get? b = some o ∧ H b = none := fun b o e =>
  ⟨I.base.keep b o (I.ok.bs b o e).1 (I.ok.bs b o e).2 (I.ok.nofr e) (I.ok.noex b o e), I.base.free b o (I.ok.bs b o e).1 (I.ok.bs b o e).2 (I.ok.noex b o e)⟩
theorem Inv.bk (I : Inv X pins σ H s) : ∀ b o, X.base.get? b = some o → s.heap.get? b = some o := fun b o e => (I.bs b o e).1
theorem Inv.mod (I : Inv X pins σ H s) : Mod X.K X.mg X.base := I.ok.mod
theorem Inv.kIn (I : Inv X pins σ H s) : X.K.In s.heap := I.ok.mod.kin.keeps I.bk
theorem Inv.lt (I : Inv X pins σ H s) : X.env.locals < s.heap.objs.size := let ⟨_, hn, _⟩ := I.loc; hn.lt
theorem Inv.sz (I : Inv X pins σ H s) : X.s₀.heap.objs.size ≤ s.heap.objs.size := Nat.le_trans I.ok.above (Nat.le_of_lt I.lt)
theorem Inv.nofs (I : Inv X pins σ H s) {a : Addr} (h : s.heap.objs.size ≤ a) : a ∉ X.fs := fun hb => by
  obtain ⟨_, o, ho, _⟩ := I.ok.funs.mem hb
  exact absurd (Nat.lt_of_lt_of_le (Heap.lt_size ho) (Nat.le_trans I.sz h)) (Nat.lt_irrefl _)
theorem Inv.cne (I : Inv X pins σ H s) : ∀ x c, X.env.cells.lookup x = some c → c ≠ X.env.locals := fun x c e z => by
  obtain ⟨v, o, ho, hd⟩ := I.cell x c e
  obtain ⟨m, ⟨o', es, ep, ho', hd', _⟩, _⟩ := I.loc
  rw [z, ho'] at ho; cases ho; rw [hd'] at hd; cases hd
theorem Inv.funs (I : Inv X pins σ H s) : s.heap.FunFrames X.base X.outer := by
  have all : ∀ (l : List Env), (∀ b ∈ frs l, b ∈ X.fs) → X.s₀.heap.FunFrames X.base l → s.heap.FunFrames X.base l := by
    intro l
    induction l with
    | nil => intro _ _; trivial
    | cons env r ih =>
      intro hs hl
      obtain ⟨hk, ⟨L, o, hf, hn, ho, hd⟩, hr⟩ := hl
      have hL : L ∈ X.fs := hs L (by unfold frs; rw [List.filterMap_cons, hf]; exact List.mem_cons_self)
      obtain ⟨sl, e⟩ := I.base.slot L o ho (I.ok.frf L hL) hL fun z => I.ok.exfs L z hL
      exact ⟨hk, ⟨L, _, hf, hn, e, hd⟩, ih (fun b hb => hs b (by unfold frs; rw [List.filterMap_cons, hf]; exact List.mem_cons_of_mem _ hb)) hr⟩
  exact all X.outer (fun _ hb => hb) I.ok.funs
theorem Inv.stack (I : Inv X pins σ H s) : s.heap.FunFrames X.base X.stack := by
  rcases I.ok.stk with e | ⟨e, hf⟩
  · rw [e]; exact I.funs
  · rw [e]
    obtain ⟨m, hn, _⟩ := I.loc
    refine .cons (by rw [I.ok.kind]; decide) hf hn ?_ I.funs
    exact Heap.get?_none_of_le (Nat.le_trans I.ok.bsz I.ok.above)
theorem Inv.stkSub (I : Inv X pins σ H s) : ∀ b ∈ frs X.stack, b ∈ X.env.locals :: X.fs := fun b hb => by
  rcases I.ok.stk with e | ⟨e, hf⟩
  · rw [e] at hb; exact List.mem_cons_of_mem _ hb
  · rw [e] at hb
    unfold frs at hb
    rw [List.filterMap_cons, hf] at hb
    exact hb
theorem Inv.stkFree (I : Inv X pins σ H s) : ∀ b ∈ frs X.stack, H b = none := fun b hb => by
  rcases List.mem_cons.mp (I.stkSub b hb) with e | hb
  · rw [e]; exact I.free
  · obtain ⟨_, o, ho, _⟩ := I.ok.funs.mem hb
    exact I.base.free b o ho (I.ok.frf b hb) fun z => I.ok.exfs b z hb
theorem Inv.step {g' : Array GenState} {t' : Nat} {d' : Drawn} {ch : List Addr} (I : Inv X pins σ H s)
    (hch : ∀ b ∈ ch, (b ∈ X.ex ∨ X.s₀.heap.objs.size ≤ b) ∧ b ≠ X.env.locals ∧ (∀ x c, X.env.cells.lookup x = some c → c ≠ b) ∧ ∀ p ∈ X.pn ++ pins, p.1 ≠ b)
    (keep : ∀ b o, b ≠ X.env.locals → b ∉ X.fs → b ∉ ch → s.heap.get? b = some o → H b = none → h'.get? b = some o)
    (slot : ∀ b o, b ≠ X.env.locals → b ∈ X.fs → b ∉ ch → s.heap.get? b = some o → H b = none → ∃ sl, h'.get? b = some { o with slots := sl }) (free : ∀ b o, b ∉ ch → s.heap.get? b = some o → H b = none → H' b = none)
    (there : ∀ b o, b ∉ ch → s.heap.get? b = some o → ∃ o', h'.get? b = some o')
    (tups : ∀ b xs, H b = some (.tup xs) → H' b = some (.tup xs)) (frzs : ∀ b o u, H b = some (.frz o u) → H' b = some (.frz o u)) (tbls : ∀ b ps, H b = some (.tbl ps) → ∃ more, H' b = some (.tbl (ps ++ more)))
    (ns : ∀ m, s.heap.Ns X.env.locals m → h'.Ns X.env.locals m) (hok : HOk X.prog X.w H' h') (hg : AllBare g') :
    Inv X pins σ H' { s with heap := h', gens := g', drawn := d', toks := t' } := by
  have neL : ∀ b o, X.s₀.heap.get? b = some o → b ≠ X.env.locals := fun b o e => Nat.ne_of_lt (Nat.lt_of_lt_of_le (Heap.lt_size e) I.ok.above)
  have neC : ∀ b o, X.s₀.heap.get? b = some o → b ∉ X.ex → b ∉ ch := fun b o e hx hb => by
    rcases (hch b hb).1 with z | z
    · exact hx z
    · exact absurd (Nat.lt_of_lt_of_le (Heap.lt_size e) z) (Nat.lt_irrefl _)
  have cellK : ∀ x c, X.env.cells.lookup x = some c → ∀ v, s.heap.IsCell c v → h'.IsCell c v := fun x c e v ⟨o, ho, hd⟩ => by
    have nch : c ∉ ch := fun z => (hch c z).2.2.1 x c e rfl
    by_cases hc : c ∈ X.fs
    · obtain ⟨sl, q⟩ := slot c o (I.cne x c e) hc nch ho (I.freeC x c e)
      exact ⟨_, q, hd⟩
    · exact ⟨o, keep c o (I.cne x c e) hc nch ho (I.freeC x c e), hd⟩
  refine ⟨I.ok, I.os, hg, ⟨fun b o e n hb hx => ?_, fun b o e n hb hx => ?_, fun b o e n hx => ?_, fun b o e hx => ?_, fun b xs e => tups b xs (I.base.tups b xs e), fun b o xs e => frzs b o xs (I.base.frzs b o xs e), fun b ps e => ?_⟩, ?_, fun x c e => ?_, ?_, fun x c e => ?_, fun p hp => ?_, hok, I.len⟩
  · exact keep b o (neL b o e) hb (neC b o e hx) (I.base.keep b o e n hb hx) (I.base.free b o e n hx)
  · obtain ⟨sl, e1⟩ := I.base.slot b o e n hb hx
    obtain ⟨sl', e2⟩ := slot b _ (neL b o e) hb (neC b o e hx) e1 (I.base.free b o e n hx)
    exact ⟨sl', e2⟩
  · obtain ⟨o', e1⟩ := I.base.there b o e hx
    exact free b o' (neC b o e hx) e1 (I.base.free b o e n hx)
  · obtain ⟨o', e1⟩ := I.base.there b o e hx
    exact there b o' (neC b o e hx) e1
  · obtain ⟨m1, e1⟩ := I.base.tbls b ps e
    obtain ⟨m2, e2⟩ := tbls b _ e1
    exact ⟨m1 ++ m2, by rw [e2, Array.append_assoc]⟩
  · obtain ⟨m, hn, hl⟩ := I.loc
    refine ⟨m, ns m hn, fun i x v e1 e2 e3 => ?_⟩
    obtain ⟨u, r, l⟩ := hl i x v e1 e2 e3
    refine ⟨u, r, ?_⟩
    rcases l with l | ⟨k, c, e, z⟩
    · exact .inl l
    · exact .inr ⟨k, c, e, cellK x c e _ z⟩
  · obtain ⟨v, z⟩ := I.cell x c e
    exact ⟨v, cellK x c e v z⟩
  · obtain ⟨m, ⟨o, _, _, ho, _⟩, _⟩ := I.loc
    exact free _ o (fun z => (hch _ z).2.1 rfl) ho I.free
  · obtain ⟨v, o, ho, hd⟩ := I.cell x c e
    exact free c o (fun z => (hch c z).2.2.1 x c e rfl) ho (I.freeC x c e)
  · obtain ⟨e, n, ne, nf, d⟩ := I.pin p hp
    have nch : p.1 ∉ ch := fun z => (hch p.1 z).2.2.2 p hp rfl
    exact ⟨keep p.1 p.2 ne nf nch e n, free p.1 p.2 nch e n, ne, nf, d⟩
theorem Inv.un {t' : Nat} (I : Inv X pins σ H s) (u : Un X.fs [] H H' s.heap h') (hok : HOk X.prog X.w H' h') : Inv X pins σ H' { s with heap := h', toks := t' } := by
  obtain ⟨m, ⟨o, es, ep, ho, r⟩, _⟩ := id I.loc
  obtain ⟨sl, hL⟩ := u.any ho I.free (by simp)
  exact I.step (g' := s.gens) (d' := s.drawn) (ch := []) (fun _ z => nomatch z) (fun b o _ hb _ e n => u.keep b o e n hb (by simp)) (fun b o _ hb _ e n => u.slot b o e n hb (by simp)) (fun b o _ e n => u.free b o e n (by simp)) (fun b o _ e => u.there b o e (by simp)) u.tups u.frzs u.tbls (fun m' hm => by
    obtain ⟨o', es', ep', ho', r'⟩ := hm
    rw [ho] at ho'; cases ho'
    exact ⟨_, es', ep', hL, r'⟩) hok I.bare
theorem Inv.call {g' : Array GenState} {t' : Nat} {d' : Drawn} {ch : List Addr} (I : Inv X pins σ H s) (u : Un (frs X.stack) ch H H' s.heap h') (hok : HOk X.prog X.w H' h') (hg : AllBare g')
    (hch : ∀ b ∈ ch, (b ∈ X.ex ∨ X.s₀.heap.objs.size ≤ b) ∧ b ≠ X.env.locals ∧ (∀ x c, X.env.cells.lookup x = some c → c ≠ b) ∧ ∀ p ∈ X.pn ++ pins, p.1 ≠ b) :
    Inv X pins σ H' { s with heap := h', gens := g', drawn := d', toks := t' } := by
  obtain ⟨m, ⟨o, es, ep, ho, r⟩, _⟩ := id I.loc
  obtain ⟨sl, hL⟩ := u.any ho I.free fun z => (hch _ z).2.1 rfl
  exact I.step (ch := ch) hch (fun b o hL hb hc e n => u.keep b o e n (fun z => (List.mem_cons.mp (I.stkSub b z)).elim hL hb) hc) (fun b o _ _ hc e n => u.any e n hc) (fun b o hc e n => u.free b o e n hc) (fun b o hc e => u.there b o e hc) u.tups u.frzs u.tbls (fun m' hm => by
    obtain ⟨o', es', ep', ho', r'⟩ := hm
    rw [ho] at ho'; cases ho'
    exact ⟨_, es', ep', hL, r'⟩) hok hg
theorem Inv.turned {t' : Nat} {it : Addr} (I : Inv X pins σ H s) (k : ∀ b o, b ≠ it → s.heap.get? b = some o → h'.get? b = some o) (hn : H it = none) (hL : it ≠ X.env.locals)
    (h1 : it ∈ X.ex ∨ X.s₀.heap.objs.size ≤ it) (h2 : ∀ x c, X.env.cells.lookup x = some c → c ≠ it) (h3 : ∀ p ∈ X.pn ++ pins, p.1 ≠ it) : Inv X pins σ H { s with heap := h', toks := t' } := by
  have nit : ∀ b u, H b = some u → b ≠ it := fun b u e z => by rw [z, hn] at e; cases e
  refine I.step (g' := s.gens) (d' := s.drawn) (ch := [it]) (fun b hb => ?_) (fun b o _ _ hc e _ => k b o (fun z => hc (by simp [z])) e) (fun b o _ _ hc e _ => ⟨o.slots, k b o (fun z => hc (by simp [z])) e⟩) (fun _ _ _ _ n => n)
    (fun b o hc e => ⟨o, k b o (fun z => hc (by simp [z])) e⟩) (fun _ _ e => e) (fun _ _ _ e => e) (fun b ps e => ⟨#[], by rw [e]; simp⟩) (fun m hm => ?_) (fun b u e => ?_) I.bare
  · have e : b = it := by simpa using hb
    subst e
    exact ⟨h1, hL, h2, h3⟩
  · obtain ⟨o, es, ep, ho, r⟩ := hm
    exact ⟨o, es, ep, k _ o (Ne.symm hL) ho, r⟩
  · refine (I.hok b u e).stay (fun c v hc q => k c v ?_ q) (fun _ q => q) fun _ _ q => q
    rcases hc with z | z
    · rw [z]; exact nit b u e
    · exact nit c _ z
theorem Inv.tok (I : Inv X pins σ H s) (t : Nat) : Inv X pins σ H { s with toks := t } := I.un (h' := s.heap) (t' := t) Un.refl I.hok
theorem Inv.kept {t' : Nat} (I : Inv X pins σ H s) (k : ∀ b u, s.heap.get? b = some u → h'.get? b = some u) : Inv X pins σ H { s with heap := h', toks := t' } := I.un (Un.kept k) (I.hok.kept k)
theorem Inv.laid {a : Addr} {o : HO} {t' : Nat} (I : Inv X pins σ H s) (k : ∀ b u, s.heap.get? b = some u → h'.get? b = some u) (hp : s.heap.objs.size ≤ a) (new : ObjOk X.prog X.w (upd H a o) h' a o) :
    Inv X pins σ (upd H a o) { s with heap := h', toks := t' } := I.un (Un.laid k hp (I.hok.fresh hp)) (I.hok.laid k hp new)
theorem Inv.write {x e : Addr} {o : HO} {t' : Nat} (I : Inv X pins σ H s) (mu : Mut (H x)) (he : e = x ∨ H e = some (.own x)) (k : ∀ b u, b ≠ e → s.heap.get? b = some u → h'.get? b = some u) (heo : ∃ u, h'.get? e = some u)
    (new : ObjOk X.prog X.w (upd H x o) h' x o) : Inv X pins σ (upd H x o) { s with heap := h', toks := t' } := I.un (Un.write mu he k heo) (I.hok.write mu he k heo new)
theorem Inv.pins_of {pins' : List (Addr × Obj)} (I : Inv X pins σ H s) (h : ∀ p ∈ pins', s.heap.get? p.1 = some p.2 ∧ H p.1 = none ∧ p.1 ≠ X.env.locals ∧ p.1 ∉ X.fs ∧ ∀ v, p.2.data ≠ .cell v) : Inv X pins' σ H s :=
  ⟨I.ok, I.os, I.bare, I.base, I.loc, I.cell, I.free, I.freeC, fun p hp => (List.mem_append.mp hp).elim (fun z => I.pin p (List.mem_append_left _ z)) (h p), I.hok, I.len⟩
theorem nodup_ix {N : List Str} (hN : N.Nodup) {i j : Nat} {x : Str} (a : N[i]? = some x) (b : N[j]? = some x) : i = j := by
  obtain ⟨h1, e1⟩ := List.getElem?_eq_some_iff.mp a
  obtain ⟨h2, e2⟩ := List.getElem?_eq_some_iff.mp b
  exact (List.getElem_inj hN).mp (e1.trans e2.symm)
theorem store_ok2 {M : Model} {A : Around} {E : Value → Shared → Prop} {i : Nat} {x : Str} {v : V} {u : Value} {Q : Unit → Shared → Prop} (I : Inv X pins σ H s) (hN : X.N.Nodup) (hi : X.N[i]? = some x) (hx : Loc X.env.scope x) (r : RelV v u)
    (h : ∀ s', Inv X pins (σ.set i (some v)) H s' → (∃ a, Heap.SameBut a s.heap s'.heap ∧ (a = X.env.locals ∨ X.env.cells.lookup x = some a)) → Q () s') (hf : X.fn x = true ∨ X.env.scope.names.lookup x = some .local := by first | exact .inl rfl | exact .inr rfl | assumption) : wpAny M A (storeName X.env x u) Q E s := by
  obtain ⟨m, hn, hl⟩ := id I.loc
  have hcls : (X.env.scope.kind == .class || (X.env.scope.kind == .module && X.env.locals != X.env.globals)) = false := by rw [I.ok.kind]; rfl
  have hiσ : i < σ.length := by rw [I.len]; exact (List.getElem?_eq_some_iff.mp hi).1
  have cne := I.cne
  have tracked : ∀ {a : Addr} {h' : Heap}, (∃ o, s.heap.get? a = some o ∧ H a = none) → Heap.SameBut a s.heap h' → HOk X.prog X.w H h' := fun {a h'} ha hs b ob e => by
    obtain ⟨_, _, hfree⟩ := ha
    refine (I.hok b ob e).stay (fun c w' hc q => (hs.2 c ?_).trans q) (fun _ q => q) fun _ _ q => q
    rintro rfl
    rcases hc with rfl | hc
    · rw [hfree] at e; cases e
    · rw [hfree] at hc; cases hc
  rcases hx with hk | hk
  · refine wpAny_storeName_local hk hn (fun h' hn' hs => ?_) hcls
    obtain ⟨oL, _, _, hoL, _⟩ := id hn
    refine h _ ⟨I.ok, I.os, I.bare, ⟨fun b o e n hb hx => ?_, fun b o e n hb hx => ?_, I.base.free, fun b o e hx => ?_, I.base.tups, I.base.frzs, I.base.tbls⟩, ⟨_, hn', fun j y v' e1 e2 e3 => ?_⟩, fun y c e => ?_, I.free, I.freeC, fun p hp => ?_, tracked ⟨oL, hoL, I.free⟩ hs, by simpa using I.len⟩ ⟨_, hs, .inl rfl⟩
    · exact (hs.2 b (Nat.ne_of_lt (Nat.lt_of_lt_of_le (Heap.lt_size e) I.ok.above))).trans (I.base.keep b o e n hb hx)
    · obtain ⟨sl, e1⟩ := I.base.slot b o e n hb hx
      exact ⟨sl, (hs.2 b (Nat.ne_of_lt (Nat.lt_of_lt_of_le (Heap.lt_size e) I.ok.above))).trans e1⟩
    · obtain ⟨o', e1⟩ := I.base.there b o e hx
      exact ⟨o', (hs.2 b (Nat.ne_of_lt (Nat.lt_of_lt_of_le (Heap.lt_size e) I.ok.above))).trans e1⟩
    · by_cases hj : j = i
      · subst hj
        rw [hi] at e1; cases e1
        rw [List.getElem?_set_self hiσ] at e2
        cases e2
        exact ⟨u, r, .inl ⟨hk, by simp⟩⟩
      · rw [List.getElem?_set_ne (Ne.symm hj)] at e2
        obtain ⟨u', r', q⟩ := hl j y v' e1 e2 e3
        refine ⟨u', r', ?_⟩
        rcases q with ⟨k, e⟩ | ⟨k, c, e, z⟩
        · refine .inl ⟨k, ?_⟩
          have : y ≠ x := fun e => hj (nodup_ix hN e1 (e ▸ hi))
          simp [this, e]
        · exact .inr ⟨k, c, e, z.sameBut hs (cne y c e)⟩
    · obtain ⟨w', z⟩ := I.cell y c e
      exact ⟨w', z.sameBut hs (cne y c e)⟩
    · obtain ⟨e, n, ne, nf, d⟩ := I.pin p hp
      exact ⟨(hs.2 p.1 ne).trans e, n, ne, nf, d⟩
  · have hfn : X.fn x = true := by
      rcases hf with z | z
      · exact z
      · rw [z] at hk; cases hk
    obtain ⟨c, hc⟩ := I.ok.has x (.inl hk)
    obtain ⟨w', z⟩ := I.cell x c hc
    refine wpAny_storeName_cell I.ok.kind hk hc z (fun h' hc' hs => ?_)
    obtain ⟨oc, hoc, hocd⟩ := id z
    refine h { s with heap := h' } ⟨I.ok, I.os, I.bare, ⟨fun b o e n hb hx => ?_, fun b o e n hb hx => ?_, I.base.free, fun b o e hx => ?_, I.base.tups, I.base.frzs, I.base.tbls⟩, ⟨m, hn.sameBut hs (Ne.symm (cne x c hc)), fun j y v' e1 e2 e3 => ?_⟩, fun y c' e => ?_, I.free, I.freeC, fun p hp => ?_, tracked ⟨oc, hoc, I.freeC x c hc⟩ hs, by simpa using I.len⟩ ⟨c, hs, .inr hc⟩
    · exact (hs.2 b (Nat.ne_of_lt (Nat.lt_of_lt_of_le (Heap.lt_size e) (I.ok.cab x c hfn hc)))).trans (I.base.keep b o e n hb hx)
    · obtain ⟨sl, e1⟩ := I.base.slot b o e n hb hx
      exact ⟨sl, (hs.2 b (Nat.ne_of_lt (Nat.lt_of_lt_of_le (Heap.lt_size e) (I.ok.cab x c hfn hc)))).trans e1⟩
    · obtain ⟨o', e1⟩ := I.base.there b o e hx
      exact ⟨o', (hs.2 b (Nat.ne_of_lt (Nat.lt_of_lt_of_le (Heap.lt_size e) (I.ok.cab x c hfn hc)))).trans e1⟩
    · by_cases hj : j = i
      · subst hj
        rw [hi] at e1; cases e1
        rw [List.getElem?_set_self hiσ] at e2
        cases e2
        exact ⟨u, r, .inr ⟨.inl hk, c, hc, hc'⟩⟩
      · rw [List.getElem?_set_ne (Ne.symm hj)] at e2
        obtain ⟨u', r', q⟩ := hl j y v' e1 e2 e3
        refine ⟨u', r', ?_⟩
        rcases q with q | ⟨k, c', e, z'⟩
        · exact .inl q
        · refine .inr ⟨k, c', e, z'.sameBut hs ?_⟩
          rintro rfl
          exact hj (nodup_ix hN e1 (I.ok.inj _ _ _ e hc ▸ hi))
    · by_cases hcc : c' = c
      · subst hcc; exact ⟨_, hc'⟩
      · obtain ⟨w2, z2⟩ := I.cell y c' e
        exact ⟨w2, z2.sameBut hs hcc⟩
    · obtain ⟨e, n, ne, nf, d⟩ := I.pin p hp
      refine ⟨(hs.2 p.1 ?_).trans e, n, ne, nf, d⟩
      intro q
      rw [q, hoc] at e
      have q' : oc = p.2 := Option.some.inj e
      exact d w' (by rw [← q']; exact hocd)
theorem store_ok {M : Model} {A : Around} {E : Value → Shared → Prop} {i : Nat} {x : Str} {v : V} {u : Value} {Q : Unit → Shared → Prop} (I : Inv X pins σ H s) (hN : X.N.Nodup) (hi : X.N[i]? = some x) (hx : Loc X.env.scope x) (r : RelV v u)
    (h : ∀ s', Inv X pins (σ.set i (some v)) H s' → Q () s') (hf : X.fn x = true ∨ X.env.scope.names.lookup x = some .local := by first | exact .inl rfl | exact .inr rfl | assumption) : wpAny M A (storeName X.env x u) Q E s :=
  store_ok2 I hN hi hx r (fun s' I' _ => h s' I') hf
theorem Inv.call' {s' : Shared} {ch : List Addr} (I : Inv X pins σ H s) (ho : s'.os = s.os) (u : Un (frs X.stack) ch H H' s.heap s'.heap) (hok : HOk X.prog X.w H' s'.heap) (hg : AllBare s'.gens)
    (hch : ∀ b ∈ ch, (b ∈ X.ex ∨ X.s₀.heap.objs.size ≤ b) ∧ b ≠ X.env.locals ∧ (∀ x c, X.env.cells.lookup x = some c → c ≠ b) ∧ ∀ p ∈ X.pn ++ pins, p.1 ≠ b) : Inv X pins σ H' s' := by
  obtain ⟨h', g', d', t', o'⟩ := s'
  have e : o' = s.os := ho
  subst e
  exact I.call (g' := g') (t' := t') (d' := d') u hok hg hch
end
abbrev XK := Value → Option Addr → Hp → Prop
abbrev St := List (Option V)
abbrev VK := V → Hp → Prop
abbrev TE := St → Hp → VK → Prop
abbrev TT := St → Hp → (Bool → Hp → Prop) → Prop
abbrev TA := St → Hp → (List V → Hp → Prop) → Prop
structure Ends where
  nx : St → Hp → Prop
  rt : VK
  bk : St → Hp → Prop := fun _ _ => False
  ct : St → Hp → Prop := fun _ _ => False
abbrev TS := Ends → St → Hp → Prop
def EP (X : Cx) (pins : List (Addr × Obj)) (σ : St) (Q : VK) (u : Value) (s' : Shared) : Prop := ∃ v H', Inv X pins σ H' s' ∧ RelV v u ∧ Q v H'
def TP (X : Cx) (pins : List (Addr × Obj)) (σ : St) (Q : Bool → Hp → Prop) (b : Bool) (s' : Shared) : Prop := ∃ H', Inv X pins σ H' s' ∧ Q b H'
def AP (X : Cx) (pins : List (Addr × Obj)) (σ : St) (Q : List V → Hp → Prop) (us : List Value) (s' : Shared) : Prop := ∃ vs H', Inv X pins σ H' s' ∧ Vals vs us ∧ Q vs H'
def SP (X : Cx) (pins : List (Addr × Obj)) (D : Ends) (f : Flow) (s' : Shared) : Prop :=
  match f with
  | .next => ∃ σ' H', Inv X pins σ' H' s' ∧ D.nx σ' H'
  | .brk => ∃ σ' H', Inv X pins σ' H' s' ∧ D.bk σ' H'
  | .cont => ∃ σ' H', Inv X pins σ' H' s' ∧ D.ct σ' H'
  | .ret u => ∃ v σ' H', Inv X pins σ' H' s' ∧ RelV v u ∧ D.rt v H'
def PE (X : Cx) (e : Expr) (t : TE) : Prop :=
  ∀ (pins : List (Addr × Obj)) (s : Shared) (σ : St) (H : Hp) (Q : VK), Inv X pins σ H s → t σ H Q → wpAny (model X.prog X.w) X.A (eval e X.env) (EP X pins σ Q) X.xe s
def PT (X : Cx) (e : Expr) (t : TT) : Prop :=
  ∀ (pins : List (Addr × Obj)) (s : Shared) (σ : St) (H : Hp) (Q : Bool → Hp → Prop), Inv X pins σ H s → t σ H Q → wpAny (model X.prog X.w) X.A (isTrue e X.env (eval e X.env)) (TP X pins σ Q) X.xe s
def PW (X : Cx) (e : Expr) (t : TT) : Prop :=
  ∀ (whole : Sem Value) (pins : List (Addr × Obj)) (s : Shared) (σ : St) (H : Hp) (Q : Bool → Hp → Prop), Inv X pins σ H s → t σ H Q → wpAny (model X.prog X.w) X.A (isTrue e X.env whole) (TP X pins σ Q) X.xe s
theorem PW.pt {X : Cx} {e : Expr} {t : TT} (h : PW X e t) : PT X e t := h _
def PA (X : Cx) (es : List Expr) (t : TA) : Prop :=
  ∀ (pos : Pos) (pins : List (Addr × Obj)) (s : Shared) (σ : St) (H : Hp) (Q : List V → Hp → Prop), Inv X pins σ H s → t σ H Q → wpAny (model X.prog X.w) X.A (spliced (backTo pos (starEach es X.env))) (AP X pins σ Q) X.xe s
def PS (X : Cx) (st : Stmt) (t : TS) : Prop :=
  ∀ (pins : List (Addr × Obj)) (s : Shared) (σ : St) (H : Hp) (D : Ends), Inv X pins σ H s → t D σ H → wpAny (model X.prog X.w) X.A (exec st X.env) (SP X pins D) X.xe s
def PSs (X : Cx) (st : List Stmt) (t : TS) : Prop :=
  ∀ (pins : List (Addr × Obj)) (s : Shared) (σ : St) (H : Hp) (D : Ends), Inv X pins σ H s → t D σ H → wpAny (model X.prog X.w) X.A (execs st X.env) (SP X pins D) X.xe s
theorem thn {α : Type} {t : Sem α} {Q Q' : α → Shared → Prop} {M : Model} {A : Around} {E : Value → Shared → Prop} {s : Shared} (h : wpAny M A t Q E s) (hQ : ∀ a s, Q a s → Q' a s) : wpAny M A t Q' E s := wpAny_mono h hQ fun _ _ x => x
end L2
namespace L2
open PySem PySem.Spec PyProof.Rows
section
variable {X : Cx}
def tVar (i : Nat) : TE := fun σ H Q => ∃ v, σ[i]? = some (some v) ∧ Q v H
def tC (v : V) : TE := fun _ H Q => Q v H
theorem pe_var {i : Nat} {x : Str} {pos : Pos} (hN : X.N[i]? = some x) (hv : Vis X.env.scope x) (hd : (x == ("__debug__" : Str)) = false := by decide) (hcd : (x == ("__classdict__" : Str)) = false := by decide) : PE X (.Name x pos) (tVar i) := by
  intro pins s σ H Q I h
  obtain ⟨v, e, h⟩ := h
  obtain ⟨m, hn, hl⟩ := I.loc
  obtain ⟨u, r, l⟩ := hl i x v hN e hv
  have fin : EP X pins σ Q u s := ⟨v, H, I, r, h⟩
  rcases l with ⟨hk, hm⟩ | ⟨hk, c, hc, hcell⟩
  · exact wpAny_Name (wpAny_loadName_local I.ok.kind hk hn hm fin) hd
  · rcases hk with hk | hk
    · exact wpAny_Name (wpAny_loadName_cell I.ok.kind hk hc hcell fin) hd
    · exact wpAny_Name (wpAny_loadName_free I.ok.kind hk hc hcell fin hcd) hd
theorem pe_int {i j pos} : PE X (.Constant (.int i) j pos) (tC (.int i)) := fun _ _ _ H _ I h => wpAny_Constant_int ⟨.int i, H, I.tok _, ⟨_, rfl⟩, h⟩
theorem pe_bl {b j pos} : PE X (.Constant (.bool b) j pos) (tC (.bl b)) := fun _ _ _ H _ I h => Constant_bool ⟨.bl b, H, I, rfl, h⟩
theorem pe_str {x j pos} : PE X (.Constant (.str x) j pos) (tC (.str x)) := fun _ _ _ H _ I h => Calls.Constant_str ⟨.str x, H, I.tok _, ⟨_, rfl⟩, h⟩
def Gl (X : Cx) (x : Str) : Prop := X.env.kindOf x = some .globalImplicit
theorem ld_glob {E : Value → Shared → Prop} {pins : List (Addr × Obj)} {s : Shared} {σ : St} {H : Hp} {x : Str} {u : Value} {pos : Pos} {Q : Value → Shared → Prop} (I : Inv X pins σ H s) (hg : Gl X x) (hm : X.mg x = some u) (h : Q u s)
    (hd : (x == ("__debug__" : Str)) = false := by decide) : wpAny (model X.prog X.w) X.A (eval (.Name x pos) X.env) Q E s :=
  Calls.Name_function_global I.ok.kind hg (Calls.loadGlobal_global (by rw [I.ok.glob]; exact I.mod.glob.keeps I.bk) hm h) hd
theorem ld_blt {E : Value → Shared → Prop} {pins : List (Addr × Obj)} {s : Shared} {σ : St} {H : Hp} {x : Str} {u : Value} {pos : Pos} {Q : Value → Shared → Prop} (I : Inv X pins σ H s) (hg : Gl X x) (hm : X.mg x = none) (hv : bootBuiltins x = some u) (h : Q u s)
    (hn : x ≠ "__name__" := by decide) (hd : (x == ("__debug__" : Str)) = false := by decide) : wpAny (model X.prog X.w) X.A (eval (.Name x pos) X.env) Q E s := by
  obtain ⟨mb, h1, h2⟩ := I.mod.blt
  exact Calls.Name_function_global I.ok.kind hg (Calls.loadGlobal_builtin (by rw [I.ok.glob]; exact I.mod.glob.keeps I.bk) hm (by rw [I.ok.blt]; exact h1.keeps I.bk) ((h2 x hn).trans hv) h) hd
theorem pe_bltn {x : Str} {v : V} {u : Value} {pos : Pos} (hg : Gl X x) (hm : X.mg x = none) (hv : bootBuiltins x = some u) (r : RelV v u) (hn : x ≠ "__name__" := by decide) (hd : (x == ("__debug__" : Str)) = false := by decide) : PE X (.Name x pos) (tC v) :=
  fun _ _ _ H _ I h => ld_blt I hg hm hv ⟨v, H, I, r, h⟩ hn hd
variable {a b : Expr} {ta tb : TE} {pos : Pos}
def tIsN (ta : TE) : TE := fun σ H Q => ta σ H fun x H1 => Q (.bl (decide (x = .non))) H1
def tNotN (ta : TE) : TE := fun σ H Q => ta σ H fun x H1 => Q (.bl (!decide (x = .non))) H1
def tB (t : TE) : TT := fun σ H Q => t σ H fun x H1 => ∃ c, x = .bl c ∧ Q c H1
theorem pt_val {e : Expr} {t : TE} (h : PE X e t) (he : ∀ whole, isTrue e X.env whole = (do let v ← whole; standAt e.pos; holding [v] (truthy v)) := by intro _; rfl) : PT X e (tB t) := by
  intro pins s σ H Q I hw
  refine isTrue_plain (thn (h pins s σ H _ I hw) fun v s1 ⟨x, H1, I1, r1, q1⟩ => ?_) (he _)
  obtain ⟨d, rfl, q⟩ := q1
  cases r1
  exact wpAny_truthy_bool ⟨H1, I1, q⟩
variable {tA tB' : TT} {rest : List Expr}
def tAnd (t u : TT) : TT := fun σ H Q => t σ H fun c H1 => if c = true then u σ H1 Q else Q false H1
def tOr (t u : TT) : TT := fun σ H Q => t σ H fun c H1 => if c = true then Q true H1 else u σ H1 Q
def tNot (t : TT) : TT := fun σ H Q => t σ H fun c H1 => Q (!c) H1
theorem pw_or1 (ha : PT X a tA) : PW X (.BoolOp .Or [a] pos) tA := by
  intro wh pins s σ H Q I h
  refine isTrue_or (thn (ha pins s σ H Q I h) fun c s1 e => ?_)
  cases c with
  | false => exact isTrue_or_nil e
  | true => exact e
theorem pw_or (ha : PT X a tA) (hb : PW X (.BoolOp .Or (b :: rest) pos) tB') : PW X (.BoolOp .Or (a :: b :: rest) pos) (tOr tA tB') := by
  intro wh pins s σ H Q I h
  refine isTrue_or (thn (ha pins s σ H _ I h) fun c s1 ⟨H1, I1, q1⟩ => ?_)
  cases c with
  | true => exact ⟨H1, I1, q1⟩
  | false => exact hb wh pins s1 σ H1 Q I1 q1
theorem pt_not (ha : PT X a tA) : PT X (.UnaryOp .Not a pos) (tNot tA) := by
  intro pins s σ H Q I h
  exact isTrue_not (ha pins s σ H (fun c H1 => Q (!c) H1) I h)
def tAndV (ta tb : TE) : TE := fun σ H Q => ta σ H fun x H1 => ∃ c, x = .bl c ∧ if c = true then tb σ H1 Q else Q (.bl false) H1
def tOrV (ta tb : TE) : TE := fun σ H Q => ta σ H fun x H1 => ∃ c, x = .bl c ∧ if c = true then Q (.bl true) H1 else tb σ H1 Q
def tNotV (ta : TE) : TE := fun σ H Q => ta σ H fun x H1 => ∃ c, x = .bl c ∧ Q (.bl (!c)) H1
theorem pe_one {op} {t : TE} (h : PE X a t) : PE X (.BoolOp op [a] pos) t := fun pins s σ H Q I hw => BoolOp_one (h pins s σ H Q I hw)
theorem pe_and (ha : PE X a ta) (hb : PE X (.BoolOp .And (b :: rest) pos) tb) : PE X (.BoolOp .And (a :: b :: rest) pos) (tAndV ta tb) := by
  intro pins s σ H Q I h
  refine BoolOp_and (thn (ha pins s σ H _ I h) fun v s1 ⟨x, H1, I1, r1, q1⟩ => ?_)
  obtain ⟨c, rfl, q1⟩ := q1
  cases r1
  refine wpAny_truthy_bool ?_
  cases c with
  | true => exact hb pins s1 σ H1 Q I1 q1
  | false => exact ⟨.bl false, H1, I1, rfl, q1⟩
theorem pe_not (ha : PE X a ta) : PE X (.UnaryOp .Not a pos) (tNotV ta) := by
  intro pins s σ H Q I h
  refine UnaryOp_ (thn (ha pins s σ H _ I h) fun v s1 ⟨x, H1, I1, r1, q1⟩ => ?_)
  obtain ⟨c, rfl, q1⟩ := q1
  cases r1
  exact not_of (wpAny_truthy_bool ⟨.bl (!c), H1, I1, rfl, q1⟩)
def tIf (t : TT) (ta tb : TE) : TE := fun σ H Q => t σ H fun c H1 => if c = true then ta σ H1 Q else tb σ H1 Q
theorem pe_ifExp {c : Expr} (hc : PT X c tA) (ha : PE X a ta) (hb : PE X b tb) : PE X (.IfExp c a b pos) (tIf tA ta tb) := by
  intro pins s σ H Q I h
  refine wpAny_IfExp (thn (hc pins s σ H _ I h) fun d s1 ⟨H1, I1, q1⟩ => ?_)
  cases d with
  | true => exact ha pins s1 σ H1 Q I1 q1
  | false => exact hb pins s1 σ H1 Q I1 q1
end
end L2
namespace L2
open PySem PySem.Spec PyProof.Rows
def SqL (K : PySem.W.Frag) (H : Hp) (a : Addr) (xs : List V) : Prop :=
  Rd H a (.lst xs) ∨
    ∃ (o : Obj) (its : Array Value) (n : Nat), K.lookup a = some o ∧ o.cls = .type "list" ∧ o.dict = none ∧ o.data = .seq its n ∧ its.size ≤ sizeLine ∧ Vals xs its.toList
def SqT (K : PySem.W.Frag) (H : Hp) (a : Addr) (xs : List V) : Prop :=
  Rd H a (.tup xs) ∨
    ∃ (o : Obj) (its : Array Value) (n : Nat), K.lookup a = some o ∧ o.cls = .type "tuple" ∧ o.data = .seq its n ∧ its.size ≤ sizeLine ∧ Vals xs its.toList
def absV : Value → Option V
  | .none => some .non
  | .bool b => some (.bl b)
  | .int i _ => some (.int i)
  | .str x _ => some (.str x)
  | .bytes b _ => some (.byt b)
  | .float b _ => some (.flt b)
  | .ref a => some (.ref a)
  | .type n => some (.ty n)
  | _ => none
theorem RelV.abs {x : V} {u : Value} (r : RelV x u) : absV u = some x := by
  cases x with
  | non => cases r; rfl
  | bl _ => cases r; rfl
  | int _ => obtain ⟨t, rfl⟩ := r; rfl
  | str _ => obtain ⟨t, rfl⟩ := r; rfl
  | byt _ => obtain ⟨t, rfl⟩ := r; rfl
  | flt _ => obtain ⟨t, rfl⟩ := r; rfl
  | ref _ => cases r; rfl
  | ty _ => cases r; rfl
theorem RelV.inj {x y : V} {u : Value} (r : RelV x u) (q : RelV y u) : x = y := Option.some.inj (r.abs.symm.trans q.abs)
theorem Vals.inj : ∀ {xs ys : List V} {us : List Value}, Vals xs us → Vals ys us → xs = ys
  | _, _, _, .nil, .nil => rfl
  | _, _, _, .cons r t, .cons r' t' => by rw [r.inj r', Vals.inj t t']
section
variable {X : Cx} {pins : List (Addr × Obj)} {σ : St} {H : Hp} {s : Shared} {a : Addr} {xs ys : List V}
theorem SqL.of {K : PySem.W.Frag} (h : H a = some (.lst xs)) : SqL K H a xs := .inl (.inl h)
theorem SqT.of {K : PySem.W.Frag} (h : H a = some (.tup xs)) : SqT K H a xs := .inl (.inl h)
theorem Inv.list (I : Inv X pins σ H s) (h : SqL X.K H a xs) : ∃ its : List Value, Vals xs its ∧ PlainL s.heap a its.toArray ∧ xs.length ≤ sizeLine := by
  rcases h with h | ⟨o, its, n, hk, hc, hd, hs, hz, r⟩
  · obtain ⟨z, its, n, r, e⟩ := h.ok I.hok
    exact ⟨its, r, ⟨_, n, e, rfl, rfl, rfl⟩, z⟩
  · refine ⟨its.toList, r, ⟨o, n, I.kIn a o hk, hc, hd, by simpa using hs⟩, ?_⟩
    have e := r.length
    simp only [Array.length_toList] at e
    omega
theorem Inv.tuple (I : Inv X pins σ H s) (h : SqT X.K H a xs) : ∃ its : List Value, Vals xs its ∧ IsTup s.heap a its.toArray ∧ xs.length ≤ sizeLine := by
  rcases h with h | ⟨o, its, n, hk, hc, hs, hz, r⟩
  · obtain ⟨z, its, r, p⟩ := h.ok I.hok
    exact ⟨its, r, p, z⟩
  · refine ⟨its.toList, r, ⟨o, I.kIn a o hk, hc, n, by simpa using hs⟩, ?_⟩
    have e := r.length
    simp only [Array.length_toList] at e
    omega
theorem Inv.list_inj (I : Inv X pins σ H s) (h : SqL X.K H a xs) (h' : SqL X.K H a ys) : xs = ys := by
  obtain ⟨its, r, ⟨o, n, e, _, _, d⟩, _⟩ := I.list h
  obtain ⟨its', r', ⟨o', n', e', _, _, d'⟩, _⟩ := I.list h'
  rw [e] at e'; cases e'
  rw [d] at d'
  injection d' with d1 _
  have : its = its' := by simpa using congrArg Array.toList d1
  subst this
  exact r.inj r'
theorem Inv.tuple_inj (I : Inv X pins σ H s) (h : SqT X.K H a xs) (h' : SqT X.K H a ys) : xs = ys := by
  obtain ⟨its, r, ⟨o, e, _, n, d⟩, _⟩ := I.tuple h
  obtain ⟨its', r', ⟨o', e', _, n', d'⟩, _⟩ := I.tuple h'
  rw [e] at e'; cases e'
  rw [d] at d'
  injection d' with d1 _
  have : its = its' := by simpa using congrArg Array.toList d1
  subst this
  exact r.inj r'
end
abbrev Cx.wish (X : Cx) (E : Value → Shared → Prop) : Cx := { X with xe := E }
abbrev Cx.nox (X : Cx) : Cx := X.wish fun _ _ => False
theorem Cx.Ok.wish {X : Cx} (ok : X.Ok) (E : Value → Shared → Prop) : (X.wish E).Ok :=
  ⟨ok.mod, ok.kind, ok.glob, ok.blt, ok.above, ok.inj, ok.has, ok.cab, ok.hd, ok.frames, ok.stk, ok.exf, ok.bs, ok.bsz, ok.noex, ok.exfs, ok.funs, ok.frf⟩
theorem Cx.Ok.unwish {X : Cx} {E : Value → Shared → Prop} (ok : (X.wish E).Ok) : X.Ok :=
  ⟨ok.mod, ok.kind, ok.glob, ok.blt, ok.above, ok.inj, ok.has, ok.cab, ok.hd, ok.frames, ok.stk, ok.exf, ok.bs, ok.bsz, ok.noex, ok.exfs, ok.funs, ok.frf⟩
section
variable {X : Cx} {pins : List (Addr × Obj)} {σ : St} {H : Hp} {s : Shared} {E : Value → Shared → Prop}
theorem Inv.wish (I : Inv X pins σ H s) (E : Value → Shared → Prop) : Inv (X.wish E) pins σ H s := ⟨I.ok.wish E, I.os, I.bare, I.base, I.loc, I.cell, I.free, I.freeC, I.pin, I.hok, I.len⟩
theorem Inv.unwish (I : Inv (X.wish E) pins σ H s) : Inv X pins σ H s := ⟨I.ok.unwish, I.os, I.bare, I.base, I.loc, I.cell, I.free, I.freeC, I.pin, I.hok, I.len⟩
theorem SP.unwish {D : Ends} {f : Flow} {s' : Shared} (h : SP (X.wish E) pins D f s') : SP X pins D f s' := by
  cases f with
  | next => obtain ⟨σ', H', I, q⟩ := h; exact ⟨σ', H', I.unwish, q⟩
  | brk => obtain ⟨σ', H', I, q⟩ := h; exact ⟨σ', H', I.unwish, q⟩
  | cont => obtain ⟨σ', H', I, q⟩ := h; exact ⟨σ', H', I.unwish, q⟩
  | ret u => obtain ⟨v, σ', H', I, r, q⟩ := h; exact ⟨v, σ', H', I.unwish, r, q⟩
theorem PSs.nox {st : List Stmt} {t : TS} (h : PSs X.nox st t) : PSs X st t := fun pins s σ H D I hw =>
  wpAny_mono (h pins s σ H D (I.wish _) hw) (fun _ _ q => q.unwish) fun _ _ z => False.elim z
end
section
variable {X : Cx} {st : Stmt} {rest : List Stmt} {t u : TS} {e : Expr} {te : TE} {pos : Pos}
def tNext : TS := fun D σ H => D.nx σ H
def tSeq (t u : TS) : TS := fun D σ H => t { D with nx := u D } σ H
theorem pss_nil : PSs X [] tNext := fun _ _ σ H _ I h => wpAny_execs_nil ⟨σ, H, I, h⟩
theorem pss_cons (h1 : PS X st t) (h2 : PSs X rest u) : PSs X (st :: rest) (tSeq t u) := by
  intro pins s σ H D I h
  refine wpAny_execs_cons (thn (h1 pins s σ H { D with nx := u D } I h) fun f s1 q => ?_)
  cases f with
  | next =>
    obtain ⟨σ', H', I', q⟩ := q
    exact h2 pins s1 σ' H' D I' q
  | ret v => exact q
  | brk => exact q
  | cont => exact q
theorem pss_one (h1 : PS X st t) : PSs X [st] t := by
  intro pins s σ H D I h
  refine wpAny_execs_cons (thn (h1 pins s σ H D I h) fun f s1 q => ?_)
  cases f with
  | next => exact wpAny_execs_nil q
  | ret v => exact q
  | brk => exact q
  | cont => exact q
def tBreak : TS := fun D σ H => D.bk σ H
def tCont : TS := fun D σ H => D.ct σ H
theorem Inv.quiet {pins : List (Addr × Obj)} {σ : St} {H : Hp} {s : Shared} (I : Inv X pins σ H s) : interactive X.env = false := by simp [interactive, I.ok.kind]
def tDrop (te : TE) : TS := fun D σ H => te σ H fun _ H1 => D.nx σ H1
theorem ps_expr (he : PE X e te) (hs : swapsWith e none pos.line X.env = pure false := by rfl) : PS X (.Expr e pos) (tDrop te) := by
  intro pins s σ H D I h
  exact wpAny_Expr_any (thn (he pins s σ H _ I h) fun v s1 ⟨x, H1, I1, r1, q1⟩ => ⟨σ, H1, I1, q1⟩) I.quiet hs
def tRet (te : TE) : TS := fun D σ H => te σ H D.rt
theorem ps_ret (he : PE X e te) : PS X (.Return (some e) pos) (tRet te) := by
  intro pins s σ H D I h
  exact wpAny_Return_some (thn (he pins s σ H _ I h) fun v s1 ⟨x, H1, I1, r1, q1⟩ => ⟨x, σ, H1, I1, r1, q1⟩)
def tRetN : TS := fun D _ H => D.rt .non H
def tIfS (c : TT) (t u : TS) : TS := fun D σ H => c σ H fun b H1 => if b = true then t D σ H1 else u D σ H1
theorem ps_if {c : Expr} {a b : List Stmt} {tc : TT} (hc : PT X c tc) (ha : PSs X a t) (hb : PSs X b u) : PS X (.If c a b pos) (tIfS tc t u) := by
  intro pins s σ H D I h
  refine wpAny_If (thn (hc pins s σ H _ I h) fun d s1 ⟨H1, I1, q1⟩ => ?_)
  cases d with
  | true => exact ha pins s1 σ H1 D I1 q1
  | false => exact hb pins s1 σ H1 D I1 q1
end
abbrev TG := V → St → Hp → (St → Hp → Prop) → Prop
abbrev TGs := List V → St → Hp → (St → Hp → Prop) → Prop
def PG (X : Cx) (target : Expr) (t : TG) : Prop :=
  ∀ (pins : List (Addr × Obj)) (s : Shared) (σ : St) (H : Hp) (v : V) (u : Value) (Q : St → Hp → Prop), Inv X pins σ H s → RelV v u → t v σ H Q →
    wpAny (model X.prog X.w) X.A (assign target X.env u) (fun _ s' => ∃ σ' H', Inv X pins σ' H' s' ∧ Q σ' H') X.xe s
def PGs (X : Cx) (ts : List Expr) (t : TGs) : Prop :=
  ∀ (pins : List (Addr × Obj)) (s : Shared) (σ : St) (H : Hp) (vs : List V) (us : List Value) (Q : St → Hp → Prop), Inv X pins σ H s → Vals vs us → t vs σ H Q →
    wpAny (model X.prog X.w) X.A (assignInOrder ((assignEach ts X.env).map (·.2)) us) (fun _ s' => ∃ σ' H', Inv X pins σ' H' s' ∧ Q σ' H') X.xe s
abbrev TSet := V → V → V → Hp → (Hp → Prop) → Prop
def PSet (X : Cx) (t : TSet) : Prop :=
  ∀ (pins : List (Addr × Obj)) (s : Shared) (σ : St) (H : Hp) (o i v : V) (ov iv u : Value) (Q : Hp → Prop), Inv X pins σ H s → RelV o ov → RelV i iv → RelV v u → t o i v H Q →
    wpAny (model X.prog X.w) X.A (setItem ov iv u) (fun _ s' => ∃ H', Inv X pins σ H' s' ∧ Q H') X.xe s
abbrev TIp := V → V → Hp → VK → Prop
section
variable {X : Cx} {pos : Pos}
def gName (i : Nat) : TG := fun v σ H Q => Q (σ.set i (some v)) H
theorem pg_name {i : Nat} {x : Str} (hN : X.N.Nodup) (hi : X.N[i]? = some x) (hx : Loc X.env.scope x) (hf : X.fn x = true ∨ X.env.scope.names.lookup x = some .local := by first | exact .inl rfl | exact .inr rfl | assumption) : PG X (.Name x pos) (gName i) := by
  intro pins s σ H v u Q I r h
  exact wpAny_assign_Name (store_ok I hN hi hx r (fun s' I' => ⟨_, H, I', h⟩) hf)
def gNil : TGs := fun vs σ H Q => vs = [] ∧ Q σ H
def gCons (t : TG) (u : TGs) : TGs := fun vs σ H Q => ∃ v r, vs = v :: r ∧ t v σ H fun σ' H' => u r σ' H' Q
theorem pgs_nil : PGs X [] gNil := by
  intro pins s σ H vs us Q I r h
  obtain ⟨e, h⟩ := h
  subst e
  cases r
  exact assignInOrder_nil ⟨σ, H, I, h⟩
theorem pgs_cons {e : Expr} {es : List Expr} {t : TG} {u : TGs} (h1 : PG X e t) (h2 : PGs X es u)
    (hs : (assignEach (e :: es) X.env).map (·.2) = assign e X.env :: (assignEach es X.env).map (·.2) := by rfl) : PGs X (e :: es) (gCons t u) := by
  intro pins s σ H vs us Q I r h
  obtain ⟨v, vr, e1, h⟩ := h
  subst e1
  cases r with
  | cons r rr =>
    rw [hs]
    refine assignInOrder_cons (thn (h1 pins s σ H _ _ _ I r h) fun _ s1 ⟨σ1, H1, I1, q1⟩ => ?_)
    exact h2 pins s1 σ1 H1 _ _ Q I1 rr q1
def gTup (K : PySem.W.Frag) (n : Nat) (t : TGs) : TG := fun v σ H Q => ∃ a xs, v = .ref a ∧ SqT K H a xs ∧ xs.length = n ∧ t xs σ H Q
theorem pg_tup {es : List Expr} {k : Nat} {t : TGs} {n : Nat} (hc : X.calm = true) (h : PGs X es t)
    (hn : (assignEach es X.env).length = n := by rfl) (hst : (assignEach es X.env).findIdx? (·.1) = none := by rfl) : PG X (.Tuple es k pos) (gTup X.K n t) := by
  intro pins s σ H v u Q I r hw
  obtain ⟨a, xs, e1, hq, hl, hw⟩ := hw
  subst e1
  cases r
  obtain ⟨its, rv, ht, hz⟩ := I.tuple hq
  refine assign_Tuple_tuple (I.ok.hd hc) ht (by simp [hn, ← hl, rv.length]) hst fun h' hx => ?_
  have I1 : Inv X pins σ H { s with heap := h' } := I.kept (t' := s.toks) fun b o e => hx b o (Nat.ne_of_lt (Heap.lt_size e)) e
  exact h pins _ σ H xs _ Q I1 (by simpa using rv) hw
def gSub (to ti : TE) (t : TSet) : TG := fun v σ H Q => to σ H fun o H1 => ti σ H1 fun i H2 => t o i v H2 fun H3 => Q σ H3
theorem pg_sub {o i : Expr} {to ti : TE} {t : TSet} (ho : PE X o to) (hi : PE X i ti) (hs : PSet X t)
    (ha : ∀ v, assign (.Subscript o i pos) X.env v = (do
      let ov ← holding [v] (eval o X.env)
      let iv ← holding [v, ov] (eval i X.env)
      standAt pos
      holding [v, ov, iv] (setItem ov iv v)
      release [v, ov, iv] []) := by intro _; rfl) : PG X (.Subscript o i pos) (gSub to ti t) := by
  intro pins s σ H v u Q I r h
  rw [ha]
  refine wpAny_bind (wpAny_holding (thn (ho pins s σ H _ I h) fun ov s1 ⟨x, H1, I1, r1, q1⟩ => ?_))
  refine wpAny_bind (wpAny_holding (thn (hi pins s1 σ H1 _ I1 q1) fun iv s2 ⟨y, H2, I2, r2, q2⟩ => ?_))
  refine wpAny_bind (wpAny_standAt (wpAny_bind (wpAny_holding (thn (hs pins s2 σ H2 x y v ov iv u _ I2 r1 r2 r q2) fun _ s3 ⟨H3, I3, q3⟩ => ?_))))
  exact wpAny_release ⟨σ, H3, I3, q3⟩
def tAsg (te : TE) (g : TG) : TS := fun D σ H => te σ H fun x H1 => g x σ H1 D.nx
theorem ps_asg {tg e : Expr} {te : TE} {g : TG} (he : PE X e te) (hg : PG X tg g) (hs : swapsWithSole [tg] e pos.line X.env = pure false := by rfl) (hw : swappedStores [tg] e X.env = pure none := by rfl)
    (h1 : (assignEach [tg] X.env).map (·.2) = [assign tg X.env] := by rfl) : PS X (.Assign [tg] e pos) (tAsg te g) := by
  intro pins s σ H D I h
  refine wpAny_Assign_stores (thn (he pins s σ H _ I h) fun v s1 ⟨x, H1, I1, r1, q1⟩ => ?_) hs hw
  rw [h1]
  exact thn (hg pins s1 σ H1 x v _ I1 r1 q1) fun _ s2 q => q
theorem ps_set {i : Nat} {x : Str} {e : Expr} {te : TE} {pos' : Pos} (hN : X.N.Nodup) (hi : X.N[i]? = some x) (hx : Loc X.env.scope x) (he : PE X e te) (hs : swapsWith e (some (.Name x pos')) pos.line X.env = pure false := by rfl) (hf : X.fn x = true ∨ X.env.scope.names.lookup x = some .local := by first | exact .inl rfl | exact .inr rfl | assumption) :
    PS X (.Assign [.Name x pos'] e pos) (tAsg te (gName i)) := by
  intro pins s σ H D I h
  refine wpAny_Assign_Name (thn (he pins s σ H _ I h) fun v s1 ⟨y, H1, I1, r1, q1⟩ => ?_) hs
  exact store_ok I1 hN hi hx r1 (fun s2 I2 => ⟨_, H1, I2, q1⟩) hf
def tAug (i : Nat) (te : TE) (ti : TIp) : TS := fun D σ H => ∃ x, σ[i]? = some (some x) ∧ te σ H fun y H1 => ti x y H1 fun z H2 => D.nx (σ.set i (some z)) H2
def ipI (f : Int → Int → Int) : TIp := fun x y H Q => ∃ i j, x = .int i ∧ y = .int j ∧ Q (.int (f i j)) H
end
section
variable {X : Cx} {pos : Pos}
end
structure It where
  go : Nat → Hp → Prop
  yld : Nat → Hp → V → Hp → Prop
  stop : Nat → Hp → Prop
def FpOk (X : Cx) (pins : List (Addr × Obj)) (H : Hp) (b : Addr) : Prop :=
  H b = none ∧ b ≠ X.env.locals ∧ b ∉ X.fs ∧ (b ∈ X.ex ∨ X.s₀.heap.objs.size ≤ b) ∧ (∀ x c, X.env.cells.lookup x = some c → c ≠ b) ∧ ∀ p ∈ X.pn ++ pins, p.1 ≠ b
theorem Inv.fpOk {X : Cx} {pins : List (Addr × Obj)} {σ : St} {H H' : Hp} {s : Shared} {b : Addr} (I : Inv X pins σ H s) (hb : s.heap.objs.size ≤ b) (hn : H' b = none) : FpOk X pins H' b := by
  refine ⟨hn, Nat.ne_of_gt (Nat.lt_of_lt_of_le I.lt hb), I.nofs hb, .inr (Nat.le_trans I.sz hb), fun x c e z => ?_, fun p hp z => ?_⟩
  · obtain ⟨v, q⟩ := I.cell x c e
    exact absurd (Nat.lt_of_lt_of_le q.lt (by rw [z]; exact hb)) (Nat.lt_irrefl _)
  · exact absurd (Nat.lt_of_lt_of_le (Heap.lt_size (I.pin p hp).1) (by rw [z]; exact hb)) (Nat.lt_irrefl _)
structure Turn (P : Program) (w : World) (K : PySem.W.Frag) (tg : Expr) (J : It) (fp : List Addr) (it : Addr) (tn : Nat → Heap → Prop) : Prop where
  mem : it ∈ fp
  obj : ∀ i h, tn i h → ∀ b ∈ fp, ∃ o, h.get? b = some o ∧ ∀ v, o.data ≠ .cell v
  keep : ∀ i h h', tn i h → (∀ b ∈ fp, ∀ o, h.get? b = some o → h'.get? b = some o) → tn i h'
  item : ∀ (X : Cx), X.prog = P → X.w = w → X.K = K → X.calm = true → ∀ (i : Nat) (pins : List (Addr × Obj)) (s : Shared) (σ : St) (H : Hp) (E : Value → Shared → Prop), Inv X pins σ H s → (∀ b ∈ fp, FpOk X pins H b) → tn i s.heap → J.go i H →
    wpAny (model P w) X.A (pyNext (.ref it)) (fun r s1 => ∃ u, r = some u ∧
      wpAny (model P w) X.A (letOwnedTupleGo tg (.ref it) u) (fun _ s2 => ∃ x H', Inv X pins σ H' s2 ∧ RelV x u ∧ J.yld i H x H' ∧ tn (i + 1) s2.heap ∧ ∀ b ∈ fp, H' b = none) E s1) E s
  done : ∀ (X : Cx), X.prog = P → X.w = w → X.K = K → X.calm = true → ∀ (i : Nat) (pins : List (Addr × Obj)) (s : Shared) (σ : St) (H : Hp) (E : Value → Shared → Prop), Inv X pins σ H s → (∀ b ∈ fp, FpOk X pins H b) → tn i s.heap → J.stop i H →
    wpAny (model P w) X.A (pyNext (.ref it)) (fun r s1 => r = none ∧ Inv X pins σ H s1) E s
  self : ∀ (A : Around) (i : Nat) (s : Shared) (Q : Value → Shared → Prop) (E : Value → Shared → Prop), tn i s.heap → Q (.ref it) s → wpAny (model P w) A (pyIter (.ref it)) Q E s
abbrev TI := St → Hp → (It → Hp → Prop) → Prop
def PIE (X : Cx) (pins : List (Addr × Obj)) (σ : St) (tg : Expr) (R : It → Hp → Prop) (itv : Value) (s2 : Shared) : Prop :=
  ∃ (it : Addr) (fp : List Addr) (tn : Nat → Heap → Prop) (J : It) (H' : Hp), itv = .ref it ∧ Inv X pins σ H' s2 ∧ Turn X.prog X.w X.K tg J fp it tn ∧ tn 0 s2.heap ∧ (∀ b ∈ fp, FpOk X pins H' b) ∧ R J H'
def PI (X : Cx) (tg iter : Expr) (wi : TI) : Prop :=
  ∀ (pins : List (Addr × Obj)) (s : Shared) (σ : St) (H : Hp) (R : It → Hp → Prop), Inv X pins σ H s → wi σ H R →
    wpAny (model X.prog X.w) X.A (eval iter X.env) (fun v s1 => wpAny (model X.prog X.w) X.A (pyIter v) (PIE X pins σ tg R) X.xe s1) X.xe s
theorem go_of {M : Model} {A : Around} {E : Value → Shared → Prop} {s : Shared} {tg : Expr} {it : Addr} {u : Value} {o : Obj} {n : String} {vs : Array Value} {Q : Unit → Shared → Prop} (ho : s.heap.get? it = some o) (hc : o.cls = .type n) (hd : o.data = .fields vs)
    (hn : ["enumerate", "zip", "dict_itemiterator", "dict_reverseitemiterator", "odict_iterator", "itertools.zip_longest", "itertools.pairwise"].contains n = false) (hQ : Q () s) : wpAny M A (letOwnedTupleGo tg (.ref it) u) Q E s := by
  unfold letOwnedTupleGo
  cases tg <;> first
    | exact wpAny_pure hQ
    | (cases u <;> first
        | exact wpAny_pure hQ
        | (refine wpAny_bind (wpAny_load ho ?_)
           rw [hc, hd]
           show wpAny M A (if (["enumerate", "zip", "dict_itemiterator", "dict_reverseitemiterator", "odict_iterator", "itertools.zip_longest", "itertools.pairwise"].contains n && vs[0]? == some (rawInt _)) = true then _ else _) Q E s
           rw [if_neg (by intro h; rw [hn, Bool.false_and] at h; cases h)]
           exact wpAny_pure hQ))
def Itl (K : PySem.W.Frag) (a : Addr) : It :=
  ⟨fun i H => ∃ xs x, SqL K H a xs ∧ xs[i]? = some x, fun i H x H' => H' = H ∧ ∀ xs, SqL K H a xs → xs[i]? = some x, fun i H => ∃ xs, SqL K H a xs ∧ xs.length ≤ i⟩
def Itt (K : PySem.W.Frag) (a : Addr) : It :=
  ⟨fun i H => ∃ xs x, SqT K H a xs ∧ xs[i]? = some x, fun i H x H' => H' = H ∧ ∀ xs, SqT K H a xs → xs[i]? = some x, fun i H => ∃ xs, SqT K H a xs ∧ xs.length ≤ i⟩
def Itr (lo : Int) (n : Nat) : It := ⟨fun i _ => i < n, fun i H x H' => H' = H ∧ x = .int (lo + i), fun i _ => n ≤ i⟩
theorem turn_list {P : Program} {w : World} {K : PySem.W.Frag} {tg : Expr} (a it : Addr) : Turn P w K tg (Itl K a) [it] it (fun i h => h.IsListIter it a i) where
  mem := by simp
  obj := fun i h st b hb => by
    have e : b = it := by simpa using hb
    subst e
    obtain ⟨o, e, c, d⟩ := st
    exact ⟨o, e, fun v z => by rw [d] at z; cases z⟩
  keep := fun i h h' st k => st.at fun o e => k it (by simp) o e
  item := by
    intro X hP hw hK hc i pins s σ H E I hf st hg
    subst hP hw hK
    obtain ⟨xs, x, hq, hx⟩ := hg
    obtain ⟨its, rv, p, hz⟩ := I.list hq
    obtain ⟨u, hu, ru⟩ := rv.get hx
    obtain ⟨f0, f1, f2, f3, f4, f5⟩ := hf it (by simp)
    refine wpAny_pyNext_list_item st p.isList (x := u) (by simpa using hu) fun h' st' sb => ?_
    have I1 : Inv X pins σ H { s with heap := h' } := I.turned (t' := s.toks) (fun b o hb e => (sb.2 b hb).trans e) f0 f1 f3 f4 f5
    obtain ⟨o, e, c, d⟩ := id st'
    exact ⟨u, rfl, go_of (s := { s with heap := h' }) e c d (by decide) ⟨x, H, I1, ru, ⟨rfl, fun ys hy => by rw [I.list_inj hy hq]; exact hx⟩, st', fun b hb => (hf b hb).1⟩⟩
  done := by
    intro X hP hw hK hc i pins s σ H E I hf st hg
    subst hP hw hK
    obtain ⟨xs, hq, hx⟩ := hg
    obtain ⟨its, rv, p, hz⟩ := I.list hq
    obtain ⟨f0, f1, f2, f3, f4, f5⟩ := hf it (by simp)
    have hl := rv.length
    exact wpAny_pyNext_list_end (I.ok.hd hc) st p.isList (by simp; omega) fun h' eb => ⟨rfl, I.turned (t' := s.toks) (fun b o hb e => eb b o hb e) f0 f1 f3 f4 f5⟩
  self := fun _ _ _ _ _ st h => wpAny_pyIter_listiter st h
theorem turn_tuple {P : Program} {w : World} {K : PySem.W.Frag} {tg : Expr} (a it : Addr) : Turn P w K tg (Itt K a) [it] it (fun i h => h.IsTupleIter it a i) where
  mem := by simp
  obj := fun i h st b hb => by
    have e : b = it := by simpa using hb
    subst e
    obtain ⟨o, e, c, d⟩ := st
    exact ⟨o, e, fun v z => by rw [d] at z; cases z⟩
  keep := fun i h h' st k => st.at fun o e => k it (by simp) o e
  item := by
    intro X hP hw hK hc i pins s σ H E I hf st hg
    subst hP hw hK
    obtain ⟨xs, x, hq, hx⟩ := hg
    obtain ⟨its, rv, p, hz⟩ := I.tuple hq
    obtain ⟨u, hu, ru⟩ := rv.get hx
    obtain ⟨f0, f1, f2, f3, f4, f5⟩ := hf it (by simp)
    refine wpAny_pyNext_tuple_item st (show s.heap.IsTuple a its.toArray from p) (x := u) (by simpa using hu) fun h' st' sb => ?_
    have I1 : Inv X pins σ H { s with heap := h' } := I.turned (t' := s.toks) (fun b o hb e => (sb.2 b hb).trans e) f0 f1 f3 f4 f5
    obtain ⟨o, e, c, d⟩ := id st'
    exact ⟨u, rfl, go_of (s := { s with heap := h' }) e c d (by decide) ⟨x, H, I1, ru, ⟨rfl, fun ys hy => by rw [I.tuple_inj hy hq]; exact hx⟩, st', fun b hb => (hf b hb).1⟩⟩
  done := by
    intro X hP hw hK hc i pins s σ H E I hf st hg
    subst hP hw hK
    obtain ⟨xs, hq, hx⟩ := hg
    obtain ⟨its, rv, p, hz⟩ := I.tuple hq
    obtain ⟨f0, f1, f2, f3, f4, f5⟩ := hf it (by simp)
    have hl := rv.length
    exact wpAny_pyNext_tuple_end (I.ok.hd hc) st (show s.heap.IsTuple a its.toArray from p) (by simp; omega) fun h' eb => ⟨rfl, I.turned (t' := s.toks) (fun b o hb e => eb b o hb e) f0 f1 f3 f4 f5⟩
  self := fun _ _ _ _ _ st h => wpAny_pyIter_tupleiter st h
theorem turn_range {P : Program} {w : World} {K : PySem.W.Frag} {tg : Expr} (it : Addr) (lo : Int) (n : Nat) : Turn P w K tg (Itr lo n) [it] it (fun i h => IsRangeIter h it (lo + (i : Nat) * 1) ((n : Int) - (i : Nat)) 1) where
  mem := by simp
  obj := fun i h st b hb => by
    have e : b = it := by simpa using hb
    subst e
    exact ⟨_, st, fun v z => by
      have z' : Data.fields _ = Data.cell v := z
      cases z'⟩
  keep := fun i h h' st k => k it (by simp) _ st
  item := by
    intro X hP hw hK hc i pins s σ H E I hf st hg
    subst hP hw hK
    obtain ⟨f0, f1, f2, f3, f4, f5⟩ := hf it (by simp)
    have W := Walks.range (prog := X.prog) (w := X.w) (I.ok.hd hc) it lo 1 n
    refine W.item i s _ _ hg st fun v h' tk hv st' kk => ?_
    obtain ⟨t, rfl⟩ := hv
    have I1 : Inv X pins σ H { s with heap := h', toks := tk } := I.turned (fun b o hb e => kk b o (by simpa using hb) e) f0 f1 f3 f4 f5
    refine ⟨_, rfl, go_of (s := { s with heap := h', toks := tk }) (n := "range_iterator") st' rfl rfl (by decide) ⟨.int (lo + i), H, I1, ⟨t, ?_⟩, ⟨rfl, rfl⟩, st', fun b hb => (hf b hb).1⟩⟩
    rw [Int.mul_one]
  done := by
    intro X hP hw hK hc i pins s σ H E I hf st hg
    subst hP hw hK
    obtain ⟨f0, f1, f2, f3, f4, f5⟩ := hf it (by simp)
    exact wpAny_pyNext_range_end (I.ok.hd hc) st (by have : n ≤ i := hg; omega) fun h' eb => ⟨rfl, I.turned (t' := s.toks) (fun b o hb e => eb b o hb e) f0 f1 f3 f4 f5⟩
  self := fun _ _ _ _ _ st h => wpAny_pyIter_rangeiter st h
end L2
namespace L2
open PySem PySem.Spec PyProof.Rows
section
variable {X : Cx} {tg : Expr}
def iList (K : PySem.W.Frag) (tl : TE) : TI := fun σ H R => tl σ H fun x H1 => ∃ a, x = .ref a ∧ (∃ xs, SqL K H1 a xs) ∧ R (Itl K a) H1
def iTup (K : PySem.W.Frag) (tl : TE) : TI := fun σ H R => tl σ H fun x H1 => ∃ a, x = .ref a ∧ (∃ xs, SqT K H1 a xs) ∧ R (Itt K a) H1
theorem pi_list {l : Expr} {tl : TE} (hl : PE X l tl) : PI X tg l (iList X.K tl) := by
  intro pins s σ H R I h
  refine thn (hl pins s σ H _ I h) fun v s1 ⟨x, H1, I1, r1, q1⟩ => ?_
  obtain ⟨a, e, ⟨xs, hq⟩, q⟩ := q1
  subst e
  cases r1
  obtain ⟨its, rv, p, hz⟩ := I1.list hq
  refine wpAny_pyIter_list p.isList ?_
  refine ⟨s1.heap.objs.size, [s1.heap.objs.size], _, _, H1, rfl, I1.kept (t' := s1.toks) fun b o e => Heap.get?_push_of_some _ e, turn_list a _, ⟨_, Heap.get?_push_size _ rfl, rfl, rfl⟩, fun b hb => ?_, q⟩
  have e : b = s1.heap.objs.size := by simpa using hb
  subst e
  exact I1.fpOk (Nat.le_refl _) (I1.hok.fresh (Nat.le_refl _))
theorem pi_tup {l : Expr} {tl : TE} (hl : PE X l tl) : PI X tg l (iTup X.K tl) := by
  intro pins s σ H R I h
  refine thn (hl pins s σ H _ I h) fun v s1 ⟨x, H1, I1, r1, q1⟩ => ?_
  obtain ⟨a, e, ⟨xs, hq⟩, q⟩ := q1
  subst e
  cases r1
  obtain ⟨its, rv, p, hz⟩ := I1.tuple hq
  refine wpAny_pyIter_tuple (show s1.heap.IsTuple a its.toArray from p) ?_
  refine ⟨s1.heap.objs.size, [s1.heap.objs.size], _, _, H1, rfl, I1.kept (t' := s1.toks) fun b o e => Heap.get?_push_of_some _ e, turn_tuple a _, ⟨_, Heap.get?_push_size _ rfl, rfl, rfl⟩, fun b hb => ?_, q⟩
  have e : b = s1.heap.objs.size := by simpa using hb
  subst e
  exact I1.fpOk (Nat.le_refl _) (I1.hok.fresh (Nat.le_refl _))
theorem range_it {pins : List (Addr × Obj)} {σ : St} {H : Hp} {s : Shared} {R : It → Hp → Prop} {E : Value → Shared → Prop} {lo hi : Int} {t u v : Tok} {tk : Nat} (I : Inv X pins σ H s) (h1 : -(2 ^ 62) ≤ lo) (h2 : lo < 2 ^ 62) (h3 : -(2 ^ 62) ≤ hi) (h4 : hi < 2 ^ 62)
    (q : R (Itr lo (hi - lo).toNat) H) : wpAny (model X.prog X.w) X.A (pyIter (.ref s.heap.objs.size)) (PIE X pins σ tg R) E { s with heap := s.heap.push { cls := .type "range", data := .fields #[.int lo t, .int hi u, .int 1 v] }, toks := tk } := by
  refine wpAny_pyIter_range (IsRange.new ..) (small_one h1 h2 h3 h4) ?_
  have I1 : Inv X pins σ H { s with heap := s.heap.push { cls := .type "range", data := .fields #[.int lo t, .int hi u, .int 1 v] }, toks := tk } := I.kept fun b o e => Heap.get?_push_of_some _ e
  refine ⟨(s.heap.push { cls := .type "range", data := .fields #[.int lo t, .int hi u, .int 1 v] }).objs.size, [(s.heap.push { cls := .type "range", data := .fields #[.int lo t, .int hi u, .int 1 v] }).objs.size], _, _, H, rfl,
    I1.kept (t' := tk) fun b o e => Heap.get?_push_of_some _ e, turn_range _ lo (hi - lo).toNat, ?_, fun b hb => ?_, q⟩
  · have e1 : lo + ((0 : Nat) : Int) * 1 = lo := by simp
    have e2 : (((hi - lo).toNat : Nat) : Int) - ((0 : Nat) : Int) = Builtin.Range.rangeSize lo hi 1 := by rw [rangeSize_one]; split <;> omega
    show IsRangeIter _ _ (lo + ((0 : Nat) : Int) * 1) ((((hi - lo).toNat : Nat) : Int) - ((0 : Nat) : Int)) 1
    rw [e1, e2]
    exact Heap.get?_push_size _ rfl
  · have e : b = (s.heap.push { cls := .type "range", data := .fields #[.int lo t, .int hi u, .int 1 v] }).objs.size := by simpa using hb
    subst e
    exact I1.fpOk (Nat.le_refl _) (I1.hok.fresh (Nat.le_refl _))
def iRng1 (ta : TA) : TI := fun σ H R => ta σ H fun vs H1 => ∃ j : Int, vs = [.int j] ∧ -(2 ^ 62) ≤ j ∧ j < 2 ^ 62 ∧ R (Itr 0 j.toNat) H1
def iRng2 (ta : TA) : TI := fun σ H R => ta σ H fun vs H1 => ∃ i j : Int, vs = [.int i, .int j] ∧ (-(2 ^ 62) ≤ i ∧ i < 2 ^ 62 ∧ -(2 ^ 62) ≤ j ∧ j < 2 ^ 62) ∧ R (Itr i (j - i).toNat) H1
theorem pi_range1 {a : Expr} {ta : TA} {p pos : Pos} (hg : Gl X "range") (hm : X.mg "range" = none) (ha : PA X [a] ta) (hs : starEach [a] X.env = [(false, eval a X.env)] := by rfl) : PI X tg (.Call (.Name "range" p) [a] [] pos) (iRng1 ta) := by
  intro pins s σ H R I h
  refine Call_ (ld_blt I hg hm boot_range (PyProof.Rows.callWith_type1 (thn (ha pos pins s σ H _ I h) fun us s1 ⟨vs, H1, I1, r1, q1⟩ => ?_) hs rfl))
  obtain ⟨j, e, q1, q2, q⟩ := q1
  subst e
  cases r1 with
  | cons r rr =>
    cases rr
    obtain ⟨t, rfl⟩ := r
    exact call_range_1 (range_it I1 (by omega) (by omega) q1 q2 (by simpa using q))
def tFor (wi : TI) (g : TG) (tb : TS) : TS := fun D σ H => wi σ H fun J H1 => ∃ W : Nat → Nat → St → Hp → Prop, (∃ m, W 0 m σ H1) ∧ ∀ i m σ H, W i m σ H →
  (J.stop i H ∧ D.nx σ H) ∨ (J.go i H ∧ ∃ N : St → Hp → Prop, (∀ σ' H', N σ' H' → ∃ m', m' < m ∧ W (i + 1) m' σ' H') ∧ ∀ x H', J.yld i H x H' → g x σ H' fun σ2 H2 => tb { D with nx := N, ct := N, bk := D.nx } σ2 H2)
def pinsAt (fp : List Addr) (h : Heap) : List (Addr × Obj) := fp.filterMap fun b => (h.get? b).map fun o => (b, o)
theorem mem_pinsAt {fp : List Addr} {h : Heap} {b : Addr} {o : Obj} (hb : b ∈ fp) (e : h.get? b = some o) : (b, o) ∈ pinsAt fp h := List.mem_filterMap.mpr ⟨b, hb, by rw [e]; rfl⟩
theorem of_pinsAt {fp : List Addr} {h : Heap} {p : Addr × Obj} (hp : p ∈ pinsAt fp h) : p.1 ∈ fp ∧ h.get? p.1 = some p.2 := by
  obtain ⟨b, hb, e⟩ := List.mem_filterMap.mp hp
  cases q : h.get? b with
  | none => rw [q] at e; cases e
  | some o =>
    rw [q] at e
    have e' : (b, o) = p := Option.some.inj e
    subst e'
    exact ⟨hb, q⟩
theorem Inv.pinned {pins : List (Addr × Obj)} {σ : St} {H : Hp} {s : Shared} {fp : List Addr} (I : Inv X pins σ H s) (hf : ∀ b ∈ fp, FpOk X pins H b) (ho : ∀ b ∈ fp, ∃ o, s.heap.get? b = some o ∧ ∀ v, o.data ≠ .cell v) : Inv X (pins ++ pinsAt fp s.heap) σ H s :=
  I.pins_of fun p hp => (List.mem_append.mp hp).elim (fun z => I.pin p (List.mem_append_right _ z)) fun z => by
    obtain ⟨hb, e⟩ := of_pinsAt z
    obtain ⟨f0, f1, f2, _⟩ := hf p.1 hb
    obtain ⟨o, e', d⟩ := ho p.1 hb
    rw [e] at e'; cases e'
    exact ⟨e, f0, f1, f2, d⟩
theorem Inv.unpinned {pins pl : List (Addr × Obj)} {σ : St} {H : Hp} {s : Shared} (I : Inv X (pins ++ pl) σ H s) : Inv X pins σ H s := I.pins_of fun p hp => I.pin p (List.mem_append_right _ (List.mem_append_left _ hp))
theorem ps_for {iter : Expr} {body : List Stmt} {wi : TI} {g : TG} {tb : TS} {pos : Pos} (hp : PassesOwn (model X.prog X.w) X.A X.env X.xe) (hc : X.calm = true) (hi : PI X tg iter wi) (hg : PG X tg g) (hb : PSs X body tb)
    (hs : ∀ x, foldedSetIterable iter X.env x = pure x := by intro _; rfl) : PS X (.For tg iter body [] pos) (tFor wi g tb) := by
  intro pins s σ H D I h
  refine wpAny_For (thn (hi pins s σ H _ I h) fun v s1 h1 => thn h1 fun itv s2 h2 => ?_) hs
  obtain ⟨it, fp, tn, J, H2, e, I2, T, st2, f2, W, ⟨m0, w0⟩, turn⟩ := h2
  subst e
  -- what stays true of the iterator's objects through the loop
  have stat : ∀ {H' : Hp}, (∀ b ∈ fp, H' b = none) → ∀ b ∈ fp, FpOk X pins H' b := fun hn b hb => ⟨hn b hb, (f2 b hb).2⟩
  refine codeAny_forLoop_any (fun n s' => ∃ i σ' H', Inv X pins σ' H' s' ∧ tn i s'.heap ∧ (∀ b ∈ fp, H' b = none) ∧ W i n σ' H') ?_ m0 ⟨0, σ, H2, I2, st2, fun b hb => (f2 b hb).1, w0⟩
  rintro n s3 ⟨i, σ3, H3, I3, st3, fr3, w3⟩
  rcases turn i n σ3 H3 w3 with ⟨stop, qn⟩ | ⟨go, N, hN, step⟩
  · refine wpAny_passesOwn hp (thn (T.done X rfl rfl rfl hc i pins s3 σ3 H3 X.xe I3 (stat fr3) st3 stop) fun r s4 ⟨hr, I4⟩ => ?_)
    subst hr
    exact wpAny_execs_nil ⟨σ3, H3, I4, qn⟩
  · refine wpAny_passesOwn hp (thn (T.item X rfl rfl rfl hc i pins s3 σ3 H3 X.xe I3 (stat fr3) st3 go) fun r s4 ⟨u, hr, h4⟩ => ?_)
    subst hr
    refine wpAny_passesOwn hp (thn h4 fun _ s5 ⟨x, H5, I5, r5, y5, st5, fr5⟩ => ?_)
    have I5' := I5.pinned (stat fr5) (T.obj _ _ st5)
    refine wpAny_passesOwn hp (thn (hg _ s5 σ3 H5 x u _ I5' r5 (step x H5 y5)) fun _ s6 ⟨σ6, H6, I6, q6⟩ => ?_)
    refine wpAny_passesOwn hp (thn (hb _ s6 σ6 H6 _ I6 q6) fun f s7 q7 => ?_)
    have again : ∀ {σ7 : St} {H7 : Hp}, Inv X (pins ++ pinsAt fp s5.heap) σ7 H7 s7 → N σ7 H7 → ∃ m, m < n ∧ ∃ i σ' H', Inv X pins σ' H' s7 ∧ tn i s7.heap ∧ (∀ b ∈ fp, H' b = none) ∧ W i m σ' H' := fun {σ7 H7} I7 n7 => by
      obtain ⟨m', hm, w7⟩ := hN σ7 H7 n7
      refine ⟨m', hm, i + 1, σ7, H7, I7.unpinned, T.keep _ _ _ st5 fun b hb o e => (I7.pin (b, o) (List.mem_append_right _ (List.mem_append_right _ (mem_pinsAt hb e)))).1, fun b hb => ?_, w7⟩
      obtain ⟨o, e, d⟩ := T.obj _ _ st5 b hb
      exact (I7.pin (b, o) (List.mem_append_right _ (List.mem_append_right _ (mem_pinsAt hb e)))).2.1
    cases f with
    | next => obtain ⟨σ7, H7, I7, n7⟩ := q7; exact again I7 n7
    | cont => obtain ⟨σ7, H7, I7, n7⟩ := q7; exact again I7 n7
    | brk => obtain ⟨σ7, H7, I7, q7⟩ := q7; exact ⟨σ7, H7, I7.unpinned, q7⟩
    | ret v => obtain ⟨x7, σ7, H7, I7, r7, q7⟩ := q7; exact ⟨x7, σ7, H7, I7.unpinned, r7, q7⟩
end
theorem for_list {K : PySem.W.Frag} {a : Addr} {xs : List V} {g : TG} {tb : TS} {D : Ends} {σ : St} {H : Hp} (Pv : Nat → St → Hp → Prop) (h0 : Pv 0 σ H) (hl : ∀ i σ H, i ≤ xs.length → Pv i σ H → SqL K H a xs)
    (hs : ∀ i x σ H, xs[i]? = some x → Pv i σ H → g x σ H fun σ2 H2 => tb { D with nx := Pv (i + 1), ct := Pv (i + 1), bk := D.nx } σ2 H2) (hd : ∀ σ H, Pv xs.length σ H → D.nx σ H) :
    ∃ W : Nat → Nat → St → Hp → Prop, (∃ m, W 0 m σ H) ∧ ∀ i m σ H, W i m σ H →
      ((Itl K a).stop i H ∧ D.nx σ H) ∨ ((Itl K a).go i H ∧ ∃ N : St → Hp → Prop, (∀ σ' H', N σ' H' → ∃ m', m' < m ∧ W (i + 1) m' σ' H') ∧ ∀ x H', (Itl K a).yld i H x H' → g x σ H' fun σ2 H2 => tb { D with nx := N, ct := N, bk := D.nx } σ2 H2) := by
  refine ⟨fun i m σ H => m = xs.length - i ∧ i ≤ xs.length ∧ Pv i σ H, ⟨xs.length, by simp, Nat.zero_le _, h0⟩, ?_⟩
  rintro i m σ H ⟨rfl, hi, p⟩
  have q := hl i σ H hi p
  by_cases hlt : i < xs.length
  · refine .inr ⟨⟨xs, xs[i], q, by simp [hlt]⟩, Pv (i + 1), fun σ' H' p' => ⟨xs.length - (i + 1), by omega, rfl, hlt, p'⟩, fun x H' y => ?_⟩
    obtain ⟨e, y⟩ := y
    subst e
    exact hs i x σ _ (y xs q) p
  · have e : i = xs.length := by omega
    subst e
    exact .inl ⟨⟨xs, q, Nat.le_refl _⟩, hd σ H p⟩
theorem for_tup {K : PySem.W.Frag} {a : Addr} {xs : List V} {g : TG} {tb : TS} {D : Ends} {σ : St} {H : Hp} (Pv : Nat → St → Hp → Prop) (h0 : Pv 0 σ H) (hl : ∀ i σ H, i ≤ xs.length → Pv i σ H → SqT K H a xs)
    (hs : ∀ i x σ H, xs[i]? = some x → Pv i σ H → g x σ H fun σ2 H2 => tb { D with nx := Pv (i + 1), ct := Pv (i + 1), bk := D.nx } σ2 H2) (hd : ∀ σ H, Pv xs.length σ H → D.nx σ H) :
    ∃ W : Nat → Nat → St → Hp → Prop, (∃ m, W 0 m σ H) ∧ ∀ i m σ H, W i m σ H →
      ((Itt K a).stop i H ∧ D.nx σ H) ∨ ((Itt K a).go i H ∧ ∃ N : St → Hp → Prop, (∀ σ' H', N σ' H' → ∃ m', m' < m ∧ W (i + 1) m' σ' H') ∧ ∀ x H', (Itt K a).yld i H x H' → g x σ H' fun σ2 H2 => tb { D with nx := N, ct := N, bk := D.nx } σ2 H2) := by
  refine ⟨fun i m σ H => m = xs.length - i ∧ i ≤ xs.length ∧ Pv i σ H, ⟨xs.length, by simp, Nat.zero_le _, h0⟩, ?_⟩
  rintro i m σ H ⟨rfl, hi, p⟩
  have q := hl i σ H hi p
  by_cases hlt : i < xs.length
  · refine .inr ⟨⟨xs, xs[i], q, by simp [hlt]⟩, Pv (i + 1), fun σ' H' p' => ⟨xs.length - (i + 1), by omega, rfl, hlt, p'⟩, fun x H' y => ?_⟩
    obtain ⟨e, y⟩ := y
    subst e
    exact hs i x σ _ (y xs q) p
  · have e : i = xs.length := by omega
    subst e
    exact .inl ⟨⟨xs, q, Nat.le_refl _⟩, hd σ H p⟩
theorem for_range {lo : Int} {n : Nat} {g : TG} {tb : TS} {D : Ends} {σ : St} {H : Hp} (Pv : Nat → St → Hp → Prop) (h0 : Pv 0 σ H)
    (hs : ∀ i σ H, i < n → Pv i σ H → g (.int (lo + i)) σ H fun σ2 H2 => tb { D with nx := Pv (i + 1), ct := Pv (i + 1), bk := D.nx } σ2 H2) (hd : ∀ σ H, Pv n σ H → D.nx σ H) :
    ∃ W : Nat → Nat → St → Hp → Prop, (∃ m, W 0 m σ H) ∧ ∀ i m σ H, W i m σ H →
      ((Itr lo n).stop i H ∧ D.nx σ H) ∨ ((Itr lo n).go i H ∧ ∃ N : St → Hp → Prop, (∀ σ' H', N σ' H' → ∃ m', m' < m ∧ W (i + 1) m' σ' H') ∧ ∀ x H', (Itr lo n).yld i H x H' → g x σ H' fun σ2 H2 => tb { D with nx := N, ct := N, bk := D.nx } σ2 H2) := by
  refine ⟨fun i m σ H => m = n - i ∧ i ≤ n ∧ Pv i σ H, ⟨n, by simp, Nat.zero_le _, h0⟩, ?_⟩
  rintro i m σ H ⟨rfl, hi, p⟩
  by_cases hlt : i < n
  · refine .inr ⟨hlt, Pv (i + 1), fun σ' H' p' => ⟨n - (i + 1), by omega, rfl, hlt, p'⟩, fun x H' y => ?_⟩
    obtain ⟨e, y⟩ := y
    subst e y
    exact hs i σ _ hlt p
  · have e : i = n := by omega
    subst e
    exact .inl ⟨Nat.le_refl _, hd σ H p⟩
end L2
namespace L2
open PySem PySem.Spec PyProof.Rows
abbrev R2 := V → V → Hp → VK → Prop
def OpR (X : Cx) (f : Value → Value → Sem Value) (r : R2) : Prop :=
  ∀ (pins : List (Addr × Obj)) (s : Shared) (σ : St) (H : Hp) (x y : V) (v u : Value) (Q : VK), Inv X pins σ H s → RelV x v → RelV y u → r x y H Q →
    wpAny (model X.prog X.w) X.A (f v u) (EP X pins σ Q) X.xe s
def UnR (X : Cx) (f : Value → Sem Value) (r : V → Hp → VK → Prop) : Prop :=
  ∀ (pins : List (Addr × Obj)) (s : Shared) (σ : St) (H : Hp) (x : V) (v : Value) (Q : VK), Inv X pins σ H s → RelV x v → r x H Q →
    wpAny (model X.prog X.w) X.A (f v) (EP X pins σ Q) X.xe s
def CallR (X : Cx) (f : Value) (r : List V → Hp → VK → Prop) : Prop :=
  ∀ (pins : List (Addr × Obj)) (s : Shared) (σ : St) (H : Hp) (xs : List V) (us : List Value) (Q : VK), Inv X pins σ H s → Vals xs us → r xs H Q →
    wpAny (model X.prog X.w) X.A (call f us) (EP X pins σ Q) X.xe s
def tOp (r : R2) (ta tb : TE) : TE := fun σ H Q => ta σ H fun x H1 => tb σ H1 fun y H2 => r x y H2 Q
def tUn (r : V → Hp → VK → Prop) (ta : TE) : TE := fun σ H Q => ta σ H fun x H1 => r x H1 Q
def rI (C : Int → Int → Prop) (g : Int → Int → V) : R2 := fun x y H Q => ∃ i j, x = .int i ∧ y = .int j ∧ C i j ∧ Q (g i j) H
def rI0 (g : Int → Int → V) : R2 := fun x y H Q => ∃ i j, x = .int i ∧ y = .int j ∧ Q (g i j) H
def rU (g : Int → V) : V → Hp → VK → Prop := fun x H Q => ∃ i, x = .int i ∧ Q (g i) H
section
variable {X : Cx} {a b c : Expr} {ta tb tc : TE} {pos : Pos}
theorem binT (ha : PE X a ta) (hb : PE X b tb) {pins : List (Addr × Obj)} {s : Shared} {σ : St} {H : Hp} {R : V → V → Hp → Prop} (I : Inv X pins σ H s)
    (h : ta σ H fun x H1 => tb σ H1 fun y H2 => R x y H2) {Q : Value → Shared → Prop} {f : Value → Value → Sem Value}
    (hf : ∀ v u s2 x y H2, Inv X pins σ H2 s2 → RelV x v → RelV y u → R x y H2 → wpAny (model X.prog X.w) X.A (f v u) Q X.xe s2) :
    wpAny (model X.prog X.w) X.A (eval a X.env) (fun v s₁ => wpAny (model X.prog X.w) X.A (eval b X.env) (fun u s₂ => wpAny (model X.prog X.w) X.A (f v u) Q X.xe s₂) X.xe s₁) X.xe s := by
  refine thn (ha pins s σ H _ I h) fun v s1 ⟨x, H1, I1, r1, q1⟩ => ?_
  refine thn (hb pins s1 σ H1 _ I1 q1) fun u s2 ⟨y, H2, I2, r2, q2⟩ => ?_
  exact hf v u s2 x y H2 I2 r1 r2 q2
theorem pe_op {op : Operator} {r : R2} (ho : OpR X (binaryOp op) r) (ha : PE X a ta) (hb : PE X b tb) : PE X (.BinOp a op b pos) (tOp r ta tb) := by
  intro pins s σ H Q I h
  exact wpAny_BinOp (binT ha hb I h fun v u s2 x y H2 I2 rx ry q => ho pins s2 σ H2 x y v u Q I2 rx ry q)
theorem pe_un {op : UnaryOp} {r : V → Hp → VK → Prop} (ho : UnR X (unaryOp op) r) (ha : PE X a ta) : PE X (.UnaryOp op a pos) (tUn r ta) := by
  intro pins s σ H Q I h
  exact UnaryOp_ (thn (ha pins s σ H _ I h) fun v s1 ⟨x, H1, I1, r1, q1⟩ => ho pins s1 σ H1 x v Q I1 r1 q1)
theorem opI {f : Value → Value → Sem Value} {C : Int → Int → Prop} {g : Int → Int → Int}
    (rule : ∀ (i j : Int) (t u : Tok) (s : Shared) (Q : Value → Shared → Prop) (E : Value → Shared → Prop), C i j → Q (.int (g i j) s.toks) { s with toks := s.toks + 1 } → wpAny (model X.prog X.w) X.A (f (.int i t) (.int j u)) Q E s) :
    OpR X f (rI C fun i j => .int (g i j)) := by
  intro pins s σ H x y v u Q I rx ry h
  obtain ⟨i, j, rfl, rfl, hc, q⟩ := h
  obtain ⟨t, rfl⟩ := rx
  obtain ⟨t', rfl⟩ := ry
  exact rule i j t t' s _ _ hc ⟨.int (g i j), H, I.tok _, ⟨_, rfl⟩, q⟩
theorem opI0 {f : Value → Value → Sem Value} {g : Int → Int → Int}
    (rule : ∀ (i j : Int) (t u : Tok) (s : Shared) (Q : Value → Shared → Prop) (E : Value → Shared → Prop), Q (.int (g i j) s.toks) { s with toks := s.toks + 1 } → wpAny (model X.prog X.w) X.A (f (.int i t) (.int j u)) Q E s) :
    OpR X f (rI0 fun i j => .int (g i j)) := by
  intro pins s σ H x y v u Q I rx ry h
  obtain ⟨i, j, rfl, rfl, q⟩ := h
  obtain ⟨t, rfl⟩ := rx
  obtain ⟨t', rfl⟩ := ry
  exact rule i j t t' s _ _ ⟨.int (g i j), H, I.tok _, ⟨_, rfl⟩, q⟩
theorem opB0 {f : Value → Value → Sem Value} {g : Int → Int → Bool}
    (rule : ∀ (i j : Int) (t u : Tok) (s : Shared) (Q : Value → Shared → Prop) (E : Value → Shared → Prop), Q (.bool (g i j)) s → wpAny (model X.prog X.w) X.A (f (.int i t) (.int j u)) Q E s) :
    OpR X f (rI0 fun i j => .bl (g i j)) := by
  intro pins s σ H x y v u Q I rx ry h
  obtain ⟨i, j, rfl, rfl, q⟩ := h
  obtain ⟨t, rfl⟩ := rx
  obtain ⟨t', rfl⟩ := ry
  exact rule i j t t' s _ _ ⟨.bl (g i j), H, I, rfl, q⟩
theorem two_pow_nn (k : Nat) : (0 : Int) ≤ 2 ^ k := by
  rw [two_pow_cast]
  exact Int.natCast_nonneg _
theorem op_add : OpR X (binaryOp .Add) (rI0 fun i j => .int (i + j)) := opI0 fun _ _ _ _ _ _ _ q => add_int q
theorem op_sub : OpR X (binaryOp .Sub) (rI0 fun i j => .int (i - j)) := opI0 fun _ _ _ _ _ _ _ q => sub_int q
theorem op_mod : OpR X (binaryOp .Mod) (rI (fun _ j => 0 < j) fun i j => .int (i % j)) := opI fun i j _ _ _ _ _ hc q => by
  have h1 : (0 : Int) < j := hc
  exact mod_int' (by omega) (by rw [Int.fmod_eq_emod_of_nonneg i (by omega)]; exact q)
theorem op_shr : OpR X (binaryOp .RShift) (rI (fun _ j => 0 ≤ j) fun i j => .int (i / 2 ^ j.toNat)) := opI fun i j _ _ _ _ _ hc q =>
  rshift_int hc (by rw [Int.fdiv_eq_ediv_of_nonneg i (two_pow_nn _)]; exact q)
theorem unI {f : Value → Sem Value} {g : Int → Int}
    (rule : ∀ (i : Int) (t : Tok) (s : Shared) (Q : Value → Shared → Prop) (E : Value → Shared → Prop), Q (.int (g i) s.toks) { s with toks := s.toks + 1 } → wpAny (model X.prog X.w) X.A (f (.int i t)) Q E s) :
    UnR X f (rU fun i => .int (g i)) := by
  intro pins s σ H x v Q I rx h
  obtain ⟨i, rfl, q⟩ := h
  obtain ⟨t, rfl⟩ := rx
  exact rule i t s _ _ ⟨.int (g i), H, I.tok _, ⟨_, rfl⟩, q⟩
theorem un_neg : UnR X (unaryOp .USub) (rU fun i => .int (-i)) := unI fun _ _ _ _ _ q => neg_int q
end
def scal : V → V → Bool
  | .non, .non => true | .non, .int _ => true | .int _, .non => true | .non, .bl _ => true | .bl _, .non => true | .non, .str _ => true | .str _, .non => true
  | .int _, .int _ => true | .bl _, .bl _ => true | .str _, .str _ => true | .byt _, .byt _ => true
  | .int _, .str _ => true | .str _, .int _ => true | .bl _, .str _ => true | .str _, .bl _ => true
  | _, _ => false
def rEq : R2 := fun x y H Q => scal x y = true ∧ Q (.bl (decide (x = y))) H
def rNe : R2 := fun x y H Q => scal x y = true ∧ Q (.bl (!decide (x = y))) H
theorem dec_int {i j : Int} : decide (V.int i = V.int j) = (i == j) := by
  rw [Bool.eq_iff_iff]
  simp
theorem dec_bl {i j : Bool} : decide (V.bl i = V.bl j) = (i == j) := by
  rw [Bool.eq_iff_iff]
  simp
theorem dec_str {i j : Str} : decide (V.str i = V.str j) = (i == j) := by
  rw [Bool.eq_iff_iff]
  simp
theorem dec_byt {i j : Array UInt8} : decide (V.byt i = V.byt j) = (i.toList == j.toList) := by
  rw [Bool.eq_iff_iff]
  cases i
  cases j
  simp
section
variable {X : Cx} {a b c : Expr} {ta tb tc : TE} {pos : Pos}
theorem fin_bl {pins : List (Addr × Obj)} {σ : St} {H : Hp} {s : Shared} {Q : VK} {k k' : Bool} (I : Inv X pins σ H s) (q : Q (.bl k) H) (e : k = k') : EP X pins σ Q (.bool k') s := by
  subst e
  exact ⟨.bl k, H, I, rfl, q⟩
theorem op_eq : OpR X (compareOp .Eq) rEq := by
  intro pins s σ H x y v u Q I rx ry h
  obtain ⟨hs, q⟩ := h
  cases x with
  | non =>
    cases rx
    cases y with
    | non => cases ry; exact PySem.EqNone.eq_none_none (fin_bl I q (by simp))
    | bl j => cases ry; exact PySem.EqNone.eq_none_bool (fin_bl I q (by simp))
    | int j => obtain ⟨t', rfl⟩ := ry; exact PySem.EqNone.eq_none_int (fin_bl I q (by simp))
    | str j => obtain ⟨t', rfl⟩ := ry; exact PySem.EqNone.eq_none_str (fin_bl I q (by simp))
    | _ => exact absurd (show false = true from hs) Bool.false_ne_true
  | bl i =>
    cases rx
    cases y with
    | non => cases ry; exact PySem.EqNone.eq_bool_none (fin_bl I q (by simp))
    | bl j => cases ry; exact eq_bool (fin_bl I q dec_bl)
    | str j => obtain ⟨t', rfl⟩ := ry; exact PySem.EqMixed.eq_bool_str (fin_bl I q (by simp))
    | _ => exact absurd (show false = true from hs) Bool.false_ne_true
  | int i =>
    obtain ⟨t, rfl⟩ := rx
    cases y with
    | non => cases ry; exact PySem.EqNone.eq_int_none (fin_bl I q (by simp))
    | int j => obtain ⟨t', rfl⟩ := ry; exact eq_int (fin_bl I q dec_int)
    | str j => obtain ⟨t', rfl⟩ := ry; exact PySem.EqMixed.eq_int_str (fin_bl I q (by simp))
    | _ => exact absurd (show false = true from hs) Bool.false_ne_true
  | str i =>
    obtain ⟨t, rfl⟩ := rx
    cases y with
    | non => cases ry; exact PySem.EqNone.eq_str_none (fin_bl I q (by simp))
    | bl j => cases ry; exact PySem.EqMixed.eq_str_bool (fin_bl I q (by simp))
    | int j => obtain ⟨t', rfl⟩ := ry; exact PySem.EqMixed.eq_str_int (fin_bl I q (by simp))
    | str j => obtain ⟨t', rfl⟩ := ry; exact eq_str (fin_bl I q dec_str)
    | _ => exact absurd (show false = true from hs) Bool.false_ne_true
  | byt i =>
    obtain ⟨t, rfl⟩ := rx
    cases y with
    | byt j => obtain ⟨t', rfl⟩ := ry; exact PySem.W.eq_bytes (fin_bl I q dec_byt)
    | _ => exact absurd (show false = true from hs) Bool.false_ne_true
  | _ => cases y <;> exact absurd (show false = true from hs) Bool.false_ne_true
theorem op_ne : OpR X (compareOp .NotEq) rNe := by
  intro pins s σ H x y v u Q I rx ry h
  obtain ⟨hs, q⟩ := h
  cases x with
  | non =>
    cases rx
    cases y with
    | non => cases ry; exact PySem.EqNone.ne_none_none (fin_bl I q (by simp))
    | bl j => cases ry; exact PySem.EqNone.ne_none_bool (fin_bl I q (by simp))
    | int j => obtain ⟨t', rfl⟩ := ry; exact PySem.EqNone.ne_none_int (fin_bl I q (by simp))
    | str j => obtain ⟨t', rfl⟩ := ry; exact PySem.EqNone.ne_none_str (fin_bl I q (by simp))
    | _ => exact absurd (show false = true from hs) Bool.false_ne_true
  | bl i =>
    cases rx
    cases y with
    | non => cases ry; exact PySem.EqNone.ne_bool_none (fin_bl I q (by simp))
    | bl j => cases ry; exact ne_bool (fin_bl I q (congrArg not dec_bl))
    | str j => obtain ⟨t', rfl⟩ := ry; exact PySem.EqMixed.ne_bool_str (fin_bl I q (by simp))
    | _ => exact absurd (show false = true from hs) Bool.false_ne_true
  | int i =>
    obtain ⟨t, rfl⟩ := rx
    cases y with
    | non => cases ry; exact PySem.EqNone.ne_int_none (fin_bl I q (by simp))
    | int j => obtain ⟨t', rfl⟩ := ry; exact ne_int (fin_bl I q (congrArg not dec_int))
    | str j => obtain ⟨t', rfl⟩ := ry; exact PySem.EqMixed.ne_int_str (fin_bl I q (by simp))
    | _ => exact absurd (show false = true from hs) Bool.false_ne_true
  | str i =>
    obtain ⟨t, rfl⟩ := rx
    cases y with
    | non => cases ry; exact PySem.EqNone.ne_str_none (fin_bl I q (by simp))
    | bl j => cases ry; exact PySem.EqMixed.ne_str_bool (fin_bl I q (by simp))
    | int j => obtain ⟨t', rfl⟩ := ry; exact PySem.EqMixed.ne_str_int (fin_bl I q (by simp))
    | str j => obtain ⟨t', rfl⟩ := ry; exact ne_str (fin_bl I q (congrArg not dec_str))
    | _ => exact absurd (show false = true from hs) Bool.false_ne_true
  | byt i =>
    obtain ⟨t, rfl⟩ := rx
    cases y with
    | byt j => obtain ⟨t', rfl⟩ := ry; exact PySem.W.ne_bytes (fin_bl I q (congrArg not dec_byt))
    | _ => exact absurd (show false = true from hs) Bool.false_ne_true
  | _ => cases y <;> exact absurd (show false = true from hs) Bool.false_ne_true
theorem op_lt : OpR X (compareOp .Lt) (rI0 fun i j => .bl (decide (i < j))) := opB0 fun _ _ _ _ _ _ _ q => lt_int q
theorem op_gt : OpR X (compareOp .Gt) (rI0 fun i j => .bl (decide (j < i))) := opB0 fun _ _ _ _ _ _ _ q => gt_int q
theorem op_ge : OpR X (compareOp .GtE) (rI0 fun i j => .bl (decide (j ≤ i))) := opB0 fun _ _ _ _ _ _ _ q => ge_int q
theorem nomark (b : Expr) {op : CmpOp} (h : op ≠ .In := by decide) (h2 : op ≠ .NotIn := by decide) : behindInMarks op b = false := by
  have e1 : (op == CmpOp.In) = false := by cases op <;> first | rfl | exact absurd rfl h
  have e2 : (op == CmpOp.NotIn) = false := by cases op <;> first | rfl | exact absurd rfl h2
  cases b <;> simp [behindInMarks, e1, e2]
theorem pe_cmpR {op : CmpOp} {r : R2} (ho : OpR X (compareOp op) r) (ha : PE X a ta) (hb : PE X b tb) (hm : behindInMarks op b = false) : PE X (.Compare a [op] [b] pos) (tOp r ta tb) := by
  intro pins s σ H Q I h
  exact wpAny_Compare1 (binT ha hb I h fun v u s2 x y H2 I2 rx ry q => ho pins s2 σ H2 x y v u Q I2 rx ry q) hm
def tTest (t : TE) : TT := fun σ H Q => t σ H fun x H' => ∃ k, x = .bl k ∧ Q k H'
theorem pt_cmpR {op : CmpOp} {r : R2} (ho : OpR X (compareOp op) r) (ha : PE X a ta) (hb : PE X b tb) (hm : behindInMarks op b = false) : PT X (.Compare a [op] [b] pos) (tTest (tOp r ta tb)) := by
  intro pins s σ H Q I h
  refine wpAny_isTrue_Compare1 (thn (ha pins s σ H _ I h) fun v s1 ⟨x, H1, I1, r1, q1⟩ => thn (hb pins s1 σ H1 _ I1 q1) fun u s2 ⟨y, H2, I2, r2, q2⟩ =>
    thn (ho pins s2 σ H2 x y v u _ I2 r1 r2 q2) fun c s3 ⟨z, H3, I3, r3, k, e, q3⟩ => ?_) hm
  subst e
  cases r3
  exact wpAny_truthy_bool ⟨H3, I3, q3⟩
def tChain (r r' : R2) (ta tb tc : TE) : TE := fun σ H Q => ta σ H fun x H1 => tb σ H1 fun y H2 => r x y H2 fun z H3 => ∃ k, z = .bl k ∧
  (if k = true then tc σ H3 fun w' H4 => r' y w' H4 Q else Q (.bl false) H3)
theorem line63 : (sizeLine : Nat) < 2 ^ 63 := by rw [sizeLine_eq]; decide
theorem vals1 {x : V} {us : List Value} (r : Vals [x] us) : ∃ u, us = [u] ∧ RelV x u := by
  cases r with
  | cons r1 r2 => cases r2; exact ⟨_, rfl, r1⟩
theorem vals2 {x y : V} {us : List Value} (r : Vals [x, y] us) : ∃ u w', us = [u, w'] ∧ RelV x u ∧ RelV y w' := by
  cases r with
  | cons r1 r2 =>
    cases r2 with
    | cons r3 r4 => cases r4; exact ⟨_, _, rfl, r1, r3⟩
theorem call_abs : CallR X (.builtin "abs") (fun xs H Q => ∃ i, xs = [.int i] ∧ Q (.int (if i < 0 then -i else i)) H) := by
  intro pins s σ H xs us Q I r h
  obtain ⟨i, rfl, q⟩ := h
  obtain ⟨u, rfl, t, rfl⟩ := vals1 r
  exact call_abs_int fun u tk => ⟨.int (if i < 0 then -i else i), H, I.tok _, ⟨_, rfl⟩, q⟩
theorem call_max2 (hc : X.calm = true) : CallR X (.builtin "max") (fun xs H Q => ∃ i j, xs = [.int i, .int j] ∧ Q (.int (if j > i then j else i)) H) := by
  intro pins s σ H xs us Q I r h
  obtain ⟨i, j, rfl, q⟩ := h
  obtain ⟨u, w', rfl, ⟨t, rfl⟩, ⟨t', rfl⟩⟩ := vals2 r
  refine max_two_ints (I.ok.hd hc) fun h' tk k => ⟨_, H, I.kept k, ?_, q⟩
  by_cases hj : j > i
  · rw [if_pos hj, if_pos hj]; exact ⟨_, rfl⟩
  · rw [if_neg hj, if_neg hj]; exact ⟨_, rfl⟩
theorem call_min2 (hc : X.calm = true) : CallR X (.builtin "min") (fun xs H Q => ∃ i j, xs = [.int i, .int j] ∧ Q (.int (if j < i then j else i)) H) := by
  intro pins s σ H xs us Q I r h
  obtain ⟨i, j, rfl, q⟩ := h
  obtain ⟨u, w', rfl, ⟨t, rfl⟩, ⟨t', rfl⟩⟩ := vals2 r
  refine min_two_ints (I.ok.hd hc) fun h' tk k => ⟨_, H, I.kept k, ?_, q⟩
  by_cases hj : j < i
  · rw [if_pos hj, if_pos hj]; exact ⟨_, rfl⟩
  · rw [if_neg hj, if_neg hj]; exact ⟨_, rfl⟩
theorem call_int1 : CallR X (.type "int") (fun xs H Q => (∃ i, xs = [.int i] ∧ Q (.int i) H) ∨ ∃ k, xs = [.bl k] ∧ Q (.int (if k then 1 else 0)) H) := by
  intro pins s σ H xs us Q I r h
  rcases h with ⟨i, rfl, q⟩ | ⟨k, rfl, q⟩
  · obtain ⟨u, rfl, t, rfl⟩ := vals1 r
    exact call_int_int ⟨.int i, H, I, ⟨_, rfl⟩, q⟩
  · obtain ⟨u, rfl, r1⟩ := vals1 r
    cases r1
    exact call_int_bool ⟨.int (if k then 1 else 0), H, I.tok _, ⟨_, rfl⟩, q⟩
end
end L2
namespace L2
open PySem PySem.Spec PyProof.Rows
structure ObjM (h : Heap) (x dx C : Addr) (mA : Str → Option Value) : Prop where
  obj : h.get? x = some (PySem.W.instObj C dx)
  ns : h.Ns1 dx mA
  ne : dx ≠ x
theorem lookIn_ns {h : Heap} {dx : Addr} {mA : Str → Option Value} (n : h.Ns1 dx mA) : ∃ od, h.get? dx = some od ∧ ∀ name, PySem.W.lookIn name od = some (mA name) := by
  obtain ⟨o, es, ep, ho, hd, hk, _, hm⟩ := n
  refine ⟨o, ho, fun name => ?_⟩
  have e := hm name
  unfold nsFind findBy at e
  rw [← Array.find?_toList] at e
  unfold PySem.W.lookIn
  rw [hd]
  dsimp only
  split
  · rename_i y q
    rw [q] at e
    exact congrArg some e
  · rename_i q
    rw [q] at e
    have a : es.toList.any (·.refKey) = false := by
      rw [List.any_eq_false]
      intro y hy
      obtain ⟨z, t, hkey⟩ := hk y (Array.mem_toList_iff.mp hy)
      simp [DictEntry.refKey, hkey]
    have a' : ¬ es.toList.any (·.refKey) = true := by rw [a]; exact Bool.false_ne_true
    rw [if_neg a']
    exact congrArg some e
theorem ObjM.look {h : Heap} {x dx C : Addr} {mA : Str → Option Value} (I : ObjM h x dx C mA) : ∃ od, PySem.W.InstAt h x (PySem.W.instObj C dx) C (some od) ∧ ∀ name, PySem.W.lookIn name od = some (mA name) :=
  let ⟨od, ho, hl⟩ := lookIn_ns I.ns
  ⟨od, ⟨I.obj, rfl, rfl, ho⟩, hl⟩
section
variable {prog : Program} {w : World} {A : Around} {E : Value → Shared → Prop} {s : Shared} {K : PySem.W.Frag} {x dx C f : Addr} {mA : Str → Option Value} {name : Str} {v : Value}
end
section
variable {P : Program} {w : World} {H H' : Hp} {h h' : Heap} {a C dx : Addr} {fs fs' : List (Str × V)}
theorem ins_get (hok : HOk P w H h) (e : H a = some (.ins C dx fs)) : ∃ mA, ObjM h a dx C mA ∧ (∀ f, RelO (fs.lookup f) (mA f)) ∧ PySem.Within mA (fs.map (·.1)) ∧ fs.length ≤ 1000 ∧ H dx = some (.own a) := by
  obtain ⟨d, z, ne, ob, mA, n, r, q⟩ := (show ObjOk P w H h a (.ins C dx fs) from hok a _ e)
  exact ⟨mA, ⟨ob, n, ne⟩, r, q, z, d⟩
end
structure Cls (K : PySem.W.Frag) (C : Addr) : Prop where
  pg : PySem.W.plainGet K C Str.empty = true
  hd : PySem.W.hasDictIn K C = true
  po : PySem.W.plainOver K C = true
  sa : PySem.W.findIn K (.ref C) "__setattr__" = some (some (.builtin "object.__setattr__"))
theorem Cls.get {K : PySem.W.Frag} {C : Addr} (c : Cls K C) (f : Str) : PySem.W.plainGet K C f = true := c.pg
section
variable {X : Cx} {pins : List (Addr × Obj)} {σ : St} {H : Hp} {s : Shared} {a C dx : Addr} {fs : List (Str × V)} {f : Str} {v : V} {A : Around} {E : Value → Shared → Prop}
end
section
variable {X : Cx} {o e value : Expr} {f : Str} {pos pos' tpos : Pos} {ta tv : TE}
end
section
variable {X : Cx} {pins : List (Addr × Obj)} {σ : St} {H : Hp} {s : Shared} {A : Around} {E : Value → Shared → Prop} {Q : Value → Shared → Prop} {c : Value} {b : Bool}
inductive TyOf (K : PySem.W.Frag) (H : Hp) : V → Value → Prop where
  | non : TyOf K H .non (.type "NoneType")
  | bl (x : Bool) : TyOf K H (.bl x) (.type "bool")
  | int (i : Int) : TyOf K H (.int i) (.type "int")
  | str (x : Str) : TyOf K H (.str x) (.type "str")
  | flt (x : UInt64) : TyOf K H (.flt x) (.type "float")
  | lst {a : Addr} {xs : List V} (e : H a = some (.lst xs)) : TyOf K H (.ref a) (.type "list")
  | frz {a : Addr} {o : Obj} {xs : List V} (e : H a = some (.frz o (.lst xs))) : TyOf K H (.ref a) (.type "list")
  | tup {a : Addr} {xs : List V} (e : H a = some (.tup xs)) : TyOf K H (.ref a) (.type "tuple")
  | dK {a : Addr} {kvs : List (Key × V)} (e : H a = some (.dK kvs)) : TyOf K H (.ref a) (.type "dict")
  | dT {a : Addr} {kvs : List (List Key × V)} (e : H a = some (.dT kvs)) : TyOf K H (.ref a) (.type "dict")
  | ins {a C dx : Addr} {fs : List (Str × V)} (e : H a = some (.ins C dx fs)) (cl : Cls K C) (ha : PySem.W.findIn K (.ref C) "__class__" = some (some (.builtin "object.__class__")))
      (hn : PySem.W.specialIn K (.builtin "object.__class__") "__get__" = some (some (.builtin "getset_descriptor.__get__"))) (htk : PySem.W.takesIn K (.builtin "object.__class__") = some true)
      (hm : PySem.W.mroIn K C (.type "object") = some true) : TyOf K H (.ref a) (.ref C)
theorem isinst_ok {x : V} {u t : Value} (I : Inv X pins σ H s) (rx : RelV x u) (ty : TyOf X.K H x t) (e : PySem.W.kitOne X.K t c = some b) (h : ∀ tk, Q (.bool b) { s with toks := tk }) :
    wpAny (model X.prog X.w) A (call (.builtin "isinstance") [u, c]) Q E s := by
  cases ty with
  | non => cases (show u = Value.none from rx); exact PySem.W.kia_one PySem.W.kitx_none I.kIn True.intro e (fun z => nomatch z) h
  | bl y => cases (show u = Value.bool y from rx); exact PySem.W.kia_one PySem.W.kitx_bool I.kIn True.intro e (fun z => nomatch z) h
  | int i => obtain ⟨t, q⟩ := (show ∃ t, u = Value.int i t from rx); cases q; exact PySem.W.kia_one PySem.W.kitx_int I.kIn True.intro e (fun z => nomatch z) h
  | str y => obtain ⟨t, q⟩ := (show ∃ t, u = Value.str y t from rx); cases q; exact PySem.W.kia_one PySem.W.kitx_str I.kIn True.intro e (fun z => nomatch z) h
  | flt y => obtain ⟨t, q⟩ := (show ∃ t, u = Value.float y t from rx); cases q; exact PySem.W.kia_one PySem.W.kitx_float I.kIn True.intro e (fun z => nomatch z) h
  | @lst a xs ea =>
    cases (show u = Value.ref a from rx)
    obtain ⟨_, _, n, _, h1⟩ := (show ObjOk X.prog X.w H s.heap a (.lst xs) from I.hok a _ ea)
    exact PySem.W.kia_one PySem.W.kitx_list I.kIn ⟨_, h1, rfl⟩ e (fun z => nomatch z) h
  | @frz a ob xs ea =>
    cases (show u = Value.ref a from rx)
    obtain ⟨_, _, _, n, _, h1⟩ := (show ObjOk X.prog X.w H s.heap a (.frz ob (.lst xs)) from I.hok a _ ea)
    exact PySem.W.kia_one PySem.W.kitx_list I.kIn ⟨_, h1, rfl⟩ e (fun z => nomatch z) h
  | @tup a xs ea =>
    cases (show u = Value.ref a from rx)
    obtain ⟨_, _, _, p⟩ := (show ObjOk X.prog X.w H s.heap a (.tup xs) from I.hok a _ ea)
    obtain ⟨o, h1, h2, _⟩ := p
    exact PySem.W.kia_one PySem.W.kitx_tuple I.kIn ⟨o, h1, h2⟩ e (fun z => nomatch z) h
  | @dK a kvs ea =>
    cases (show u = Value.ref a from rx)
    obtain ⟨_, _, vs, _, p⟩ := (show ObjOk X.prog X.w H s.heap a (.dK kvs) from I.hok a _ ea)
    obtain ⟨o, es, ep, h1, h2, _⟩ := p
    exact PySem.W.kia_one PySem.W.kitx_dict I.kIn ⟨o, h1, h2.1⟩ e (fun z => nomatch z) h
  | @dT a kvs ea =>
    cases (show u = Value.ref a from rx)
    obtain ⟨_, _, xs, _, o, es, ep, h1, h2, _⟩ := (show ObjOk X.prog X.w H s.heap a (.dT kvs) from I.hok a _ ea)
    exact PySem.W.kia_one PySem.W.kitx_dict I.kIn ⟨o, h1, h2.1⟩ e (fun z => nomatch z) h
  | @ins a C dx fs ea cl ha hn htk hm =>
    cases (show u = Value.ref a from rx)
    obtain ⟨mA, O, _⟩ := ins_get I.hok ea
    obtain ⟨od, J, _⟩ := O.look
    exact PySem.W.kia_one (PySem.W.kitx_own (cl.get _) cl.hd ha hn htk hm) I.kIn J e (fun z => nomatch z) h
end
end L2
namespace L2
open PySem PySem.Spec PyProof.Rows
structure Room (k : Nat) (A : Around) : Prop where
  hd : A.handled = none
  dp : A.depth + 3 * k + 5 < recursionLimit
  un : A.units + 16 * k + 200 < cLine
theorem Room.mono {j k : Nat} {A : Around} (r : Room k A) (h : j ≤ k) : Room j A := ⟨r.hd, by have := r.dp; omega, by have := r.un; omega⟩
theorem Room.deeper {k : Nat} {A : Around} (r : Room (k + 1) A) (env : Env) : Room k (A.deeper env) :=
  ⟨r.hd, by have := r.dp; show A.depth + 1 + 3 * k + 5 < _; omega, by have := r.un; show A.units + 3 + 16 * k + 200 < _; omega⟩
theorem Room.depth {k : Nat} {A : Around} (r : Room k A) : A.depth < recursionLimit := by have := r.dp; omega
theorem Room.units {k : Nat} {A : Around} (r : Room k A) : A.units + 64 < cLine := by have := r.un; omega
def tNil : TA := fun _ H Q => Q [] H
def tCons (ta : TE) (tr : TA) : TA := fun σ H Q => ta σ H fun x H1 => tr σ H1 fun xs H2 => Q (x :: xs) H2
section
variable {X : Cx} {e : Expr} {es : List Expr} {te : TE} {t : TA} {pos : Pos}
theorem pa_nil : PA X [] tNil := fun _ _ _ _ H Q I h => Calls.spliced_nil ⟨[], H, I, .nil, h⟩
theorem pa_cons (ha : PE X e te) (hr : PA X es t) (hs : starEach (e :: es) X.env = (false, eval e X.env) :: starEach es X.env := by rfl) : PA X (e :: es) (tCons te t) := by
  intro pos pins s σ H Q I h
  rw [hs]
  show wpAny _ _ (spliced ((false, eval e X.env) :: backTo pos (starEach es X.env))) _ _ s
  refine Calls.spliced_cons (thn (ha pins s σ H _ I h) fun u s1 ⟨x, H1, I1, r1, q1⟩ => ?_)
  exact thn (hr pos pins s1 σ H1 _ I1 q1) fun us s2 ⟨xs, H2, I2, r2, q2⟩ => ⟨x :: xs, H2, I2, .cons r1 r2, q2⟩
def tTup (t : TA) : TE := fun σ H Q => t σ H fun xs H1 => xs.length ≤ sizeLine ∧ ∀ p, H1 p = none → Q (.ref p) (upd H1 p (.tup xs))
def tLst (t : TA) : TE := fun σ H Q => t σ H fun xs H1 => xs.length ≤ sizeLine ∧ ∀ p, H1 p = none → Q (.ref p) (upd H1 p (.lst xs))
theorem pe_tup {x1} (h : PA X es t) : PE X (.Tuple es x1 pos) (tTup t) := by
  intro pins s σ H Q I hq
  refine wpAny_Tuple_spliced (thn (h pos pins s σ H _ I hq) fun us s1 ⟨xs, H1, I1, r, z, q⟩ => ⟨by rw [← r.length]; exact z, ?_⟩)
  have hf : H1 s1.heap.objs.size = none := I1.hok.fresh (Nat.le_refl _)
  refine ⟨.ref s1.heap.objs.size, upd H1 s1.heap.objs.size (.tup xs), I1.laid (t' := s1.toks) (fun b u e => Heap.get?_push_of_some _ e) (Nat.le_refl _) ?_, rfl, q _ hf⟩
  exact ⟨z, us, r, ⟨_, Heap.get?_push_size _ rfl, rfl, _, rfl⟩⟩
theorem pe_lst (h : PA X es t) : PE X (.List es pos) (tLst t) := by
  intro pins s σ H Q I hq
  refine wpAny_List_spliced (thn (h pos pins s σ H _ I hq) fun us s1 ⟨xs, H1, I1, r, z, q⟩ => ⟨by rw [← r.length]; exact z, ?_⟩)
  have hf : H1 s1.heap.objs.size = none := I1.hok.fresh (Nat.le_refl _)
  refine ⟨.ref s1.heap.objs.size, upd H1 s1.heap.objs.size (.lst xs), I1.laid (t' := s1.toks) (fun b u e => Heap.get?_push_of_some _ e) (Nat.le_refl _) ?_, rfl, q _ hf⟩
  exact ⟨z, us, 0, r, Heap.get?_push_size _ rfl⟩
end
abbrev Sp := List V → Hp → VK → XK → Prop
abbrev CXT := List Env → Hp → Shared → XK → Value → Shared → Prop
structure Env0 (P : Program) (w : World) (K : PySem.W.Frag) (mg : Str → Option Value) (base : Heap) (A : Around) (outer : List Env) (s : Shared) (H : Hp) : Prop where
  frames : A.frames = some outer
  mod : Mod K mg base
  bs : ∀ b o, base.get? b = some o → s.heap.get? b = some o ∧ H b = none
  bsz : base.objs.size ≤ s.heap.objs.size
  funs : s.heap.FunFrames base outer
  frf : ∀ b ∈ frs outer, H b = none
  hok : HOk P w H s.heap
  bare : AllBare s.gens
def CE (outer : List Env) (P : Program) (w : World) (H : Hp) (s : Shared) (Q : VK) (u : Value) (s' : Shared) : Prop :=
  ∃ v H', s'.os = s.os ∧ AllBare s'.gens ∧ Un (frs outer) [] H H' s.heap s'.heap ∧ HOk P w H' s'.heap ∧ RelV v u ∧ Q v H'
def CR (CX : CXT) (outer : List Env) (P : Program) (w : World) (H : Hp) (s : Shared) (Q : VK) (E : XK) (r : Result) (s' : Shared) : Prop :=
  match r with
  | .ok (.ret u) => CE outer P w H s Q u s'
  | .ok _ => False
  | .error e => CX outer H s E e s'
structure FnOk (P : Program) (w : World) (K : PySem.W.Frag) (mg : Str → Option Value) (base : Heap) (CX : CXT) (k : Nat) (f : Addr) (fd : FuncData) (ps : List Str) (sp : Sp) : Prop where
  len : ∀ vs H Q E, sp vs H Q E → vs.length = ps.length
  run : ∀ (A : Around) (outer : List Env) (s : Shared) (H : Hp) (args : Args) (us : List Value) (vs : List V) (Q : VK) (E : XK), Room k A → Env0 P w K mg base A outer s H → BindsTo s fd args (ps.zip us) → Vals vs us → sp vs H Q E →
    codeAny (model P w) A (.call (.ref f) args) (CR CX outer P w H s Q E) s
theorem FnOk.mono {P : Program} {w : World} {K : PySem.W.Frag} {mg : Str → Option Value} {base : Heap} {CX : CXT} {j k : Nat} {f : Addr} {fd : FuncData} {ps : List Str} {sp : Sp} (F : FnOk P w K mg base CX j f fd ps sp) (h : j ≤ k) :
    FnOk P w K mg base CX k f fd ps sp := ⟨F.len, fun A outer s H args us vs Q E hr => F.run A outer s H args us vs Q E (hr.mono h)⟩
theorem FnOk.imp {P : Program} {w : World} {K : PySem.W.Frag} {mg : Str → Option Value} {base : Heap} {CX : CXT} {k : Nat} {f : Addr} {fd : FuncData} {ps : List Str} {sp sp' : Sp} (F : FnOk P w K mg base CX k f fd ps sp)
    (h : ∀ vs H Q E, sp' vs H Q E → sp vs H Q E) : FnOk P w K mg base CX k f fd ps sp' :=
  ⟨fun vs H Q E q => F.len vs H Q E (h _ _ _ _ q), fun A outer s H args us vs Q E hr he hb hv hs => F.run A outer s H args us vs Q E hr he hb hv (h _ _ _ _ hs)⟩
section
variable {X : Cx} {pins : List (Addr × Obj)} {σ : St} {H : Hp} {s s' : Shared}
theorem Inv.env0 (I : Inv X pins σ H s) : Env0 X.prog X.w X.K X.mg X.base X.A X.stack s H :=
  ⟨I.ok.frames, I.ok.mod, I.bs, Nat.le_trans I.ok.bsz I.sz, I.stack, I.stkFree, I.hok, I.bare⟩
theorem Inv.after {Q : VK} {u : Value} (I : Inv X pins σ H s) (h : CE X.stack X.prog X.w H s Q u s') : EP X pins σ Q u s' := by
  obtain ⟨v, H', os, bare, un, hok, r, q⟩ := h
  obtain ⟨hh, g, d, t, os'⟩ := s'
  obtain rfl : os' = s.os := os
  exact ⟨v, H', I.call (h' := hh) (g' := g) (d' := d) (t' := t) (ch := []) un hok bare (fun b z => absurd z (by simp)), r, q⟩
end
def tCall (sp : Sp) (dvs : List V) (E : XK) (t : TA) : TE := fun σ H Q => t σ H fun vs H1 => sp (vs ++ dvs) H1 Q E
def Binds (K : PySem.W.Frag) (fd : FuncData) (ps : List Str) (ds : List Value) : Prop :=
  ∀ (s : Shared) (us : List Value), K.In s.heap → (us ++ ds).length = ps.length → BindsTo s fd ⟨us, []⟩ (ps.zip (us ++ ds))
theorem Binds.all {K : PySem.W.Frag} {fd : FuncData} {ps : List Str} (h : ∀ us : List Value, us.length = ps.length → bindArgs fd ⟨us, []⟩ = pure (ps.zip us)) : Binds K fd ps [] := fun s us _ hl => by
  rw [List.append_nil] at hl ⊢
  exact .of_eq (h us hl)
def Passes (CX : CXT) (X : Cx) (E : XK) : Prop := ∀ (pins : List (Addr × Obj)) (σ : St) (H : Hp) (s : Shared) (e : Value) (s' : Shared), Inv X pins σ H s → CX X.stack H s E e s' → X.xe e s'
section
variable {X : Cx} {CX : CXT} {k : Nat} {f C : Addr} {fd : FuncData} {ps : List Str} {sp : Sp} {dvs : List V} {ds : List Value} {E : XK} {x m : Str} {p pos apos : Pos} {e o : Expr} {es : List Expr} {ta : TE} {t : TA}
theorem run_fn {pins : List (Addr × Obj)} {σ : St} {H : Hp} {s : Shared} {Q : VK} {us : List Value} {vs : List V} (F : FnOk X.prog X.w X.K X.mg X.base CX k f fd ps sp) (hr : Room k X.A) (hb : Binds X.K fd ps ds) (hd : Vals dvs ds) (hx : Passes CX X E)
    (I : Inv X pins σ H s) (r : Vals vs us) (h : sp (vs ++ dvs) H Q E) : wpAny (model X.prog X.w) X.A (call (.ref f) us) (EP X pins σ Q) X.xe s := by
  have r2 : Vals (vs ++ dvs) (us ++ ds) := r.append hd
  have hl : (us ++ ds).length = ps.length := by rw [← r2.length]; exact F.len _ _ _ _ h
  refine wpAny_call (codeAny_mono (F.run X.A X.stack s H ⟨us, []⟩ (us ++ ds) (vs ++ dvs) Q E hr I.env0 (hb s us I.kIn hl) r2 h) fun r s' hq => ?_)
  cases r with
  | error e => exact hx pins σ H s e s' I hq
  | ok fl =>
    cases fl with
    | ret u => exact I.after hq
    | next => exact False.elim hq
    | brk => exact False.elim hq
    | cont => exact False.elim hq
theorem pe_call (F : FnOk X.prog X.w X.K X.mg X.base CX k f fd ps sp) (hr : Room k X.A) (hg : Gl X x) (hm : X.mg x = some (.ref f)) (hk : PySem.W.keepIn X.K (.ref f) = true) (hb : Binds X.K fd ps ds) (hd : Vals dvs ds) (hx : Passes CX X E)
    (ha : PA X (e :: es) t) (hdb : (x == ("__debug__" : Str)) = false := by decide) (he : starEach (e :: es) X.env = (false, eval e X.env) :: starEach es X.env := by rfl) (hpl : (backTo pos (starEach es X.env)).any (·.1) = false := by rfl) :
    PE X (.Call (.Name x p) (e :: es) [] pos) (tCall sp dvs E t) := by
  intro pins s σ H Q I h
  refine wpAny_Call_Name_kw (ld_glob I hg hm ?_ hdb)
  refine PySem.W.callWith_K (h₀ := X.base) I.ok.mod.kin hk (thn (ha pos pins s σ H _ I h) fun us s1 ⟨vs, H1, I1, r, q⟩ => ⟨I1.kIn, ?_⟩) he hpl
  exact run_fn F hr hb hd hx I1 r q
end
def PK (X : Cx) (kws : List Keyword) (t : TA) : Prop :=
  ∀ (pos : Pos) (pins : List (Addr × Obj)) (s : Shared) (σ : St) (H : Hp) (Q : List V → Hp → Prop), Inv X pins σ H s → t σ H Q → wpAny (model X.prog X.w) X.A (evalAll ((backToKw pos (keywordEach kws X.env)).map (·.2))) (AP X pins σ Q) X.xe s
section
variable {X : Cx} {CX : CXT} {k : Nat} {f C : Addr} {fd : FuncData} {ps ks : List Str} {sp : Sp} {E : XK} {x m : Str} {p pos apos kpos : Pos} {e o : Expr} {es : List Expr} {kws : List Keyword} {te ta : TE} {t tk : TA} {nm : Option Str}
theorem pk_nil : PK X [] tNil := fun _ _ _ _ H Q I h => wpAny_evalAll_nil ⟨[], H, I, .nil, h⟩
theorem pk_cons (ha : PE X e te) (hr : PK X kws t) : PK X (⟨nm, e, kpos⟩ :: kws) (tCons te t) := by
  intro pos pins s σ H Q I h
  show wpAny _ _ (evalAll ((do let v ← eval e X.env; standAt pos; pure v) :: (backToKw pos (keywordEach kws X.env)).map (·.2))) _ _ s
  refine wpAny_evalAll_cons (wpAny_bind (thn (ha pins s σ H _ I h) fun u s1 ⟨x, H1, I1, r1, q1⟩ => wpAny_bind (wpAny_standAt (wpAny_pure ?_))))
  exact thn (hr pos pins s1 σ H1 _ I1 q1) fun us s2 ⟨xs, H2, I2, r2, q2⟩ => ⟨x :: xs, H2, I2, .cons r1 r2, q2⟩
variable {g : List Value → List Value → List Value} {gV : List V → List V → List V}
end
structure FnScope (N P : List Str) (sc : Scope) : Prop where
  kind : sc.kind = .function
  co : sc.isCoroutine = false
  gen : sc.isGenerator = false
  nd : N.Nodup
  pre : N.take P.length = P
  par : ∀ x ∈ P, sc.names.lookup x = some .local ∨ sc.names.lookup x = some .cell
  nofree : ∀ y ∈ sc.names, y.2 ≠ .free
theorem bindL_out {kindOf : Str → Option NameKind} {x : Str} : ∀ {binds : List (Str × Value)} {m : Str → Option Value}, (∀ v, (x, v) ∉ binds) → bindL kindOf binds m x = m x
  | [], _, _ => rfl
  | (n, v) :: r, m, h => by
    unfold bindL
    rw [bindL_out fun w hw => h w (List.mem_cons_of_mem _ hw)]
    split
    · have : x ≠ n := by rintro rfl; exact h v List.mem_cons_self
      simp [this]
    · rfl
theorem bindC_out {kindOf : Str → Option NameKind} {x : Str} : ∀ {binds : List (Str × Value)} {m : Str → Option Value}, (∀ v, (x, v) ∉ binds) → bindC kindOf binds m x = m x
  | [], _, _ => rfl
  | (n, v) :: r, m, h => by
    unfold bindC
    rw [bindC_out fun w hw => h w (List.mem_cons_of_mem _ hw)]
    split
    · rfl
    · have : x ≠ n := by rintro rfl; exact h v List.mem_cons_self
      simp [this]
theorem bindL_get {kindOf : Str → Option NameKind} {x : Str} {v : Value} : ∀ {P : List Str} {vs : List Value} {i : Nat} {m : Str → Option Value}, P.Nodup → P[i]? = some x → vs[i]? = some v → kindOf x = some .local →
    bindL kindOf (P.zip vs) m x = some v
  | [], _, _, _, _, h, _, _ => by simp at h
  | _ :: _, [], _, _, _, _, h, _ => by simp at h
  | p :: P, w :: vs, 0, m, nd, h1, h2, hk => by
    simp at h1 h2; subst h1; subst h2
    show bindL kindOf ((p, w) :: P.zip vs) m p = _
    unfold bindL
    rw [bindL_out fun v hv => (List.nodup_cons.mp nd).1 (List.of_mem_zip hv).1, if_pos hk]
    simp
  | p :: P, w :: vs, i + 1, m, nd, h1, h2, hk => by
    show bindL kindOf ((p, w) :: P.zip vs) m x = _
    unfold bindL
    exact bindL_get (i := i) (List.nodup_cons.mp nd).2 (by simpa using h1) (by simpa using h2) hk
theorem bindC_get {kindOf : Str → Option NameKind} {x : Str} {v : Value} : ∀ {P : List Str} {vs : List Value} {i : Nat} {m : Str → Option Value}, P.Nodup → P[i]? = some x → vs[i]? = some v → kindOf x ≠ some .local →
    bindC kindOf (P.zip vs) m x = some v
  | [], _, _, _, _, h, _, _ => by simp at h
  | _ :: _, [], _, _, _, _, h, _ => by simp at h
  | p :: P, w :: vs, 0, m, nd, h1, h2, hk => by
    simp at h1 h2; subst h1; subst h2
    show bindC kindOf ((p, w) :: P.zip vs) m p = _
    unfold bindC
    rw [bindC_out fun v hv => (List.nodup_cons.mp nd).1 (List.of_mem_zip hv).1, if_neg hk]
    simp
  | p :: P, w :: vs, i + 1, m, nd, h1, h2, hk => by
    show bindC kindOf ((p, w) :: P.zip vs) m x = _
    unfold bindC
    exact bindC_get (i := i) (List.nodup_cons.mp nd).2 (by simpa using h1) (by simpa using h2) hk
def start (N : List Str) (vs : List V) : St := vs.map some ++ List.replicate (N.length - vs.length) none
def cxOf (CX : CXT) (P : Program) (w : World) (K : PySem.W.Frag) (mg : Str → Option Value) (base : Heap) (N : List Str) (qual : Str) (scope : Scope) (f : Addr) (cd : Value) (A : Around) (outer : List Env) (s : Shared) (H : Hp) (E : XK) : Cx where
  prog := P
  w := w
  K := K
  mg := mg
  base := base
  A := A.deeper (envOfC qual scope s.heap.objs.size f cd)
  N := N
  s₀ := s
  H₀ := H
  env := envOfC qual scope s.heap.objs.size f cd
  outer := outer
  stack := envOfC qual scope s.heap.objs.size f cd :: outer
  ex := []
  calm := true
  fn := fun _ => true
  pn := []
  xe := fun e s' => wpAny (model P w) (A.deeper (envOfC qual scope s.heap.objs.size f cd)) (leaving (envOfC qual scope s.heap.objs.size f cd) e) (fun _ s'' => CX outer H s E e s'') (fun e' s'' => CX outer H s E e' s'') s'
theorem cell_has {sc : Scope} {n : Nat} {x : Str} (h : sc.names.lookup x = some .cell) : ∃ c, (cellsFrom n sc.names []).lookup x = some c := by
  have q := PySem.W.cellsFrom_some sc.names n [] (.inl h)
  exact Option.isSome_iff_exists.mp q
theorem inv_start {CX : CXT} {P : Program} {w : World} {K : PySem.W.Frag} {mg : Str → Option Value} {base : Heap} {N ps : List Str} {qual : Str} {scope : Scope} {f : Addr} {cd : Value} {A : Around} {outer : List Env} {s s1 : Shared} {H : Hp} {E : XK} {us : List Value} {vs : List V}
    (S : FnScope N ps scope) (hd : A.handled = none) (e0 : Env0 P w K mg base A outer s H) (hl : vs.length = ps.length) (r : Vals vs us)
    (x : InCallC s s.heap.objs.size (bindL (envOfC qual scope s.heap.objs.size f cd).kindOf (ps.zip us) fun _ => none) (cellsFrom (s.heap.objs.size + 1) scope.names []) (bindC (envOfC qual scope s.heap.objs.size f cd).kindOf (ps.zip us) fun _ => none) s1) :
    Inv (cxOf CX P w K mg base N qual scope f cd A outer s H E) [] (start N vs) H s1 := by
  have hpl : ps.length ≤ N.length := by have := congrArg List.length S.pre; rw [List.length_take] at this; omega
  obtain ⟨h1, tk, rfl, hk⟩ := x.done
  have noA : ∀ b : Addr, b ∉ (cxOf CX P w K mg base N qual scope f cd A outer s H E).ex := fun b z => absurd (show b ∈ ([] : List Addr) from z) (by simp)
  refine ⟨⟨e0.mod, S.kind, rfl, rfl, Nat.le_refl _, fun y z c h1 h2 => ?_, fun y hy => ?_, fun y c _ h => ?_, fun _ => hd, Around.frames_deeper e0.frames, .inr ⟨rfl, rfl⟩, fun b z => absurd z (noA b), e0.bs, e0.bsz, fun b _ _ => noA b, fun b z => absurd z (noA b), e0.funs, e0.frf⟩,
    rfl, e0.bare, Un.kept hk, ⟨_, x.toInCall.ns, fun i y v h1 h2 h3 => ?_⟩, fun y c h => ⟨_, x.cell y c h⟩, e0.hok.fresh (Nat.le_refl _), fun y c h => ?_, fun p hp => absurd (show p ∈ ([] : List (Addr × Obj)) from hp) (by simp), e0.hok.kept hk, ?_⟩
  · exact name_of_addr x.apart (PySem.mem_of_lookup h1) (PySem.mem_of_lookup h2)
  · have hy : scope.names.lookup y = some .cell ∨ scope.names.lookup y = some .free := hy
    rcases hy with hy | hy
    · exact cell_has hy
    · exact absurd rfl (S.nofree _ (PySem.mem_of_lookup hy))
  · exact Nat.le_of_lt (x.above y c (PySem.mem_of_lookup h))
  · have hi : i < vs.length := by
      unfold start at h2
      by_cases hi : i < vs.length
      · exact hi
      · rw [List.getElem?_append_right (by simpa using hi)] at h2
        rw [List.getElem?_replicate] at h2
        split at h2 <;> cases h2
    have ha : vs[i]? = some v := by
      unfold start at h2
      rw [List.getElem?_append_left (by simpa using hi), List.getElem?_map] at h2
      cases e : vs[i]? with
      | none => rw [e] at h2; cases h2
      | some a => rw [e] at h2; cases h2; rfl
    obtain ⟨u, hu, rv⟩ := r.get ha
    have hp : ps[i]? = some y := by
      rw [← S.pre, List.getElem?_take_of_lt (by omega)]; exact h1
    have ndP : ps.Nodup := by rw [← S.pre]; exact S.nd.sublist (List.take_sublist _ _)
    refine ⟨u, rv, ?_⟩
    rcases S.par y (List.mem_of_getElem? hp) with k | k
    · exact .inl ⟨k, bindL_get ndP hp hu k⟩
    · obtain ⟨c, e⟩ := cell_has (n := s.heap.objs.size + 1) k
      refine .inr ⟨.inl k, c, e, ?_⟩
      have q := x.cell y c e
      rw [bindC_get ndP hp hu (by show scope.names.lookup y ≠ _; rw [k]; decide)] at q
      exact q
  · exact e0.hok.fresh (Nat.le_of_lt (x.above y c (PySem.mem_of_lookup h)))
  · unfold start
    show _ = N.length
    rw [List.length_append, List.length_map, List.length_replicate]
    omega
theorem fn_of {CX : CXT} {P : Program} {w : World} {K : PySem.W.Frag} {mg : Str → Option Value} {base : Heap} {k : Nat} {f : Addr} {name qual : Str} {params : Arguments} {body : List Stmt} {scope : Scope} {dV kV doc pm cdv ct oc : Value} {an od : Option Addr}
    {osl : Array (Option Value)} {N ps : List Str} {sp : Sp} (lk : K.lookup f = some ⟨oc, od, .func (PySem.W.fnOf name qual params body scope dV kV doc pm an cdv ct), osl⟩) (hcd : PySem.W.codeIn K cdv qual = true) (S : FnScope N ps scope)
    (len : ∀ vs H Q E, sp vs H Q E → vs.length = ps.length)
    (hbody : ∀ (A : Around) (outer : List Env) (s : Shared) (H : Hp) (vs : List V) (Q : VK) (E : XK), Room k (A.deeper (envOfC qual scope s.heap.objs.size f cdv)) → sp vs H Q E →
      ∃ t, PSs (cxOf CX P w K mg base N qual scope f cdv A outer s H E) body t ∧ t { nx := fun _ H' => Q .non H', rt := Q } (start N vs) H) :
    FnOk P w K mg base CX (k + 1) f (PySem.W.fnOf name qual params body scope dV kV doc pm an cdv ct) ps sp := by
  refine ⟨len, fun A outer s H args us vs Q E hr e0 hb r hsp => ?_⟩
  have hl := len _ _ _ _ hsp
  have KX : K.In s.heap := e0.mod.kin.keeps fun b o e => (e0.bs b o e).1
  have lim : s.heap.NoLimit := e0.mod.nolimit.keeps fun b o e => (e0.bs b o e).1
  have hkind : ∀ y ∈ ps.zip us, scope.names.lookup y.1 = some .local ∨ (scope.names.lookup y.1 = some .cell ∧ ((cellsFrom (s.heap.objs.size + 1) scope.names []).lookup y.1).isSome = true) := fun ⟨n, v⟩ hy => by
    rcases S.par n (List.of_mem_zip hy).1 with q | q
    · exact .inl q
    · exact .inr ⟨q, PySem.W.cellsFrom_some _ _ _ (.inl q)⟩
  refine codeAny_call_function hr.depth (KX _ _ lk) rfl S.co S.gen rfl (PySem.W.codeRec_of KX hcd) (hb _ _ _ _ ?_)
  refine wpAny_newFunctionEnv_cells S.kind hkind fun env he s1 x => ?_
  subst he
  refine ⟨lim.keeps x.toInCall.keep, codeAny_func ?_⟩
  obtain ⟨t, ht, hq⟩ := hbody A outer s H vs Q E (hr.deeper _) hsp
  have I : Inv (cxOf CX P w K mg base N qual scope f cdv A outer s H E) [] (start N vs) H s1 := inv_start S hr.hd e0 hl r x
  refine wpAny_mono (ht [] s1 (start N vs) H _ I hq) (fun fl s' hs => ?_) fun e s' hs => hs
  have fin : ∀ {σ' : St} {H' : Hp} {v : V} {u : Value}, Inv (cxOf CX P w K mg base N qual scope f cdv A outer s H E) [] σ' H' s' → RelV v u → Q v H' → CE outer P w H s Q u s' :=
    fun {σ' H' v u} J rv q => ⟨v, H', J.os, J.bare, J.base, J.hok, rv, q⟩
  cases fl with
  | ret u =>
    obtain ⟨v, σ', H', J, rv, q⟩ := hs
    exact fin J rv q
  | next =>
    obtain ⟨σ', H', J, q⟩ := hs
    exact fin (v := V.non) (u := Value.none) J rfl q
  | brk =>
    obtain ⟨_, _, _, q⟩ := hs
    exact False.elim q
  | cont =>
    obtain ⟨_, _, _, q⟩ := hs
    exact False.elim q
end L2
namespace L2
open PySem PySem.Spec PyProof.Rows
section
variable {X : Cx} {x : Str} {p pos : Pos} {e : Expr} {es : List Expr} {t : TA} {id T : String} {r : List V → Hp → VK → Prop}
def tCB (r : List V → Hp → VK → Prop) (t : TA) : TE := fun σ H Q => t σ H fun vs H1 => r vs H1 Q
theorem pe_callB (hc : CallR X (.builtin id) r) (hg : Gl X x) (hm : X.mg x = none) (hv : bootBuiltins x = some (.builtin id)) (ha : PA X (e :: es) t) (hn : x ≠ "__name__" := by decide) (hdb : (x == ("__debug__" : Str)) = false := by decide)
    (he : starEach (e :: es) X.env = (false, eval e X.env) :: starEach es X.env := by rfl) (hpl : (backTo pos (starEach es X.env)).any (·.1) = false := by rfl) : PE X (.Call (.Name x p) (e :: es) [] pos) (tCB r t) := by
  intro pins s σ H Q I h
  refine wpAny_Call_Name_kw (ld_blt I hg hm hv ?_ hn hdb)
  exact PyProof.Rows.callWith_builtin1 (thn (ha pos pins s σ H _ I h) fun us s1 ⟨vs, H1, I1, r1, q1⟩ => hc pins s1 σ H1 vs us Q I1 r1 q1) he hpl
theorem pe_callTy (hc : CallR X (.type T) r) (hg : Gl X x) (hm : X.mg x = none) (hv : bootBuiltins x = some (.type T)) (ha : PA X (e :: es) t) (hn : x ≠ "__name__" := by decide) (hdb : (x == ("__debug__" : Str)) = false := by decide)
    (he : starEach (e :: es) X.env = (false, eval e X.env) :: starEach es X.env := by rfl) (hpl : (backTo pos (starEach es X.env)).any (·.1) = false := by rfl) : PE X (.Call (.Name x p) (e :: es) [] pos) (tCB r t) := by
  intro pins s σ H Q I h
  refine wpAny_Call_Name_kw (ld_blt I hg hm hv ?_ hn hdb)
  exact PyProof.Rows.callWith_type1 (thn (ha pos pins s σ H _ I h) fun us s1 ⟨vs, H1, I1, r1, q1⟩ => hc pins s1 σ H1 vs us Q I1 r1 q1) he hpl
end
end L2
namespace HT
open PySem PyProof.Rows
section
open PySem.SeqAt
open PySem.AutoSeq1 (wpAny_loadPart')
open PySem.MeetsSeq PySem.MeetsSeq2 PySem.MeetsSeq3
end
section
variable {prog : Program} {w : World} {A : Around} {E : Value → Shared → Prop} {s : Shared}
def sIx (n d : Nat) : Option Int → Nat
  | none => d
  | some v => if v < 0 then (v + (n : Int)).toNat else min v.toNat n
end
end HT
namespace L2
open PySem PySem.Spec PyProof.Rows
abbrev TO := St → Hp → (Option Int → Hp → Prop) → Prop
def tNoPart : TO := fun _ H Q => Q none H
def tPart (t : TE) : TO := fun σ H Q => t σ H fun x H1 => ∃ i, x = .int i ∧ Q (some i) H1
section
variable {X : Cx} {e : Expr} {te : TE} {lo hi : Option Expr} {tl th : TO} {pos p2 : Pos}
def tSl (r : V → Option Int → Option Int → Hp → VK → Prop) (te : TE) (tl th : TO) : TE := fun σ H Q => te σ H fun x H1 => tl σ H1 fun l H2 => th σ H2 fun u H3 => r x l u H3 Q
def cutV (xs : List V) (lo hi : Option Int) : List V := (xs.drop (HT.sIx xs.length 0 lo)).take (HT.sIx xs.length xs.length hi - HT.sIx xs.length 0 lo)
end
end L2
namespace L2
open PySem PySem.Spec PyProof.Rows
def ixN (n : Nat) (i : Int) : Option Nat := if 0 ≤ i then (if i < n then some i.toNat else none) else if -(n : Int) ≤ i then some (i + n).toNat else none
def atI {α : Type} (xs : List α) (i : Int) : Option α := (ixN xs.length i).bind fun j => xs[j]?
theorem ixN_seq {n : Nat} {i : Int} {j : Nat} (h : ixN n i = some j) : seqIndex? i n = some j ∧ j < n ∧ -(n : Int) ≤ i ∧ i < n := by
  unfold ixN at h
  by_cases h0 : 0 ≤ i
  · rw [if_pos h0] at h
    by_cases h1 : i < n
    · rw [if_pos h1] at h
      have e : i.toNat = j := Option.some.inj h
      exact ⟨by rw [seqIndex_of h0 h1, e], by omega, by omega, h1⟩
    · rw [if_neg h1] at h; cases h
  · rw [if_neg h0] at h
    by_cases h1 : -(n : Int) ≤ i
    · rw [if_pos h1] at h
      have e : (i + n).toNat = j := Option.some.inj h
      exact ⟨by rw [seqIndex_neg (by omega) h1, e], by omega, h1, by omega⟩
    · rw [if_neg h1] at h; cases h
theorem atI_get {α : Type} {xs : List α} {i : Int} {v : α} (h : atI xs i = some v) : ∃ j, seqIndex? i xs.length = some j ∧ xs[j]? = some v ∧ j < xs.length ∧ -(xs.length : Int) ≤ i ∧ i < xs.length := by
  unfold atI at h
  cases e : ixN xs.length i with
  | none => rw [e] at h; cases h
  | some j =>
    rw [e] at h
    obtain ⟨h1, h2, h3, h4⟩ := ixN_seq e
    exact ⟨j, h1, h, h2, h3, h4⟩
theorem atI_nat {α : Type} {xs : List α} {j : Nat} {v : α} (h : xs[j]? = some v) : atI xs (j : Int) = some v := by
  have hj : j < xs.length := (List.getElem?_eq_some_iff.mp h).1
  have e : ixN xs.length (j : Int) = some j := by
    unfold ixN
    rw [if_pos (by omega), if_pos (by omega)]; simp
  unfold atI; rw [e]; exact h
theorem atI_last {α : Type} (xs : List α) (v : α) : atI (xs ++ [v]) (-1) = some v := by
  have hl : (xs ++ [v]).length = xs.length + 1 := by simp
  have e : ixN (xs ++ [v]).length (-1) = some xs.length := by
    unfold ixN
    rw [hl, if_neg (by decide), if_pos (by omega)]
    congr 1
    omega
  unfold atI
  rw [e]
  show (xs ++ [v])[xs.length]? = some v
  simp
def PlainIx (b : Expr) : Prop := ∀ o i, subscripted b false o i = operate [o, i] (getItem o i)
def IxR (X : Cx) (r : R2) : Prop :=
  ∀ (value slice : Expr) (pins : List (Addr × Obj)) (s : Shared) (σ : St) (H : Hp) (x y : V) (v u : Value) (Q : VK), Inv X pins σ H s → RelV x v → RelV y u → r x y H Q →
    subscripted slice false v u = operate [v, u] (getItem v u) → wpAny (model X.prog X.w) X.A (subscriptTail value slice v u) (EP X pins σ Q) X.xe s
def MtR (X : Cx) (id : String) (r : V → List V → Hp → VK → Prop) : Prop :=
  ∀ (pins : List (Addr × Obj)) (s : Shared) (σ : St) (H : Hp) (x : V) (xs : List V) (v : Value) (us : List Value) (Q : VK), Inv X pins σ H s → RelV x v → Vals xs us → r x xs H Q →
    wpAny (model X.prog X.w) X.A (call (.builtin id) (v :: us)) (EP X pins σ Q) X.xe s
section
variable {X : Cx} {a b : Expr} {ta tb : TE} {pos : Pos}
theorem pe_ix {r : R2} (hr : IxR X r) (ha : PE X a ta) (hb : PE X b tb) (hs : PlainIx b) : PE X (.Subscript a b pos) (tOp r ta tb) := by
  intro pins s σ H Q I h
  exact Subscript_ (binT ha hb I h fun v u s2 x y H2 I2 rx ry q => hr a b pins s2 σ H2 x y v u Q I2 rx ry q (hs _ _))
def rIxL (K : PySem.W.Frag) : R2 := fun x y H Q => ∃ p xs i v, x = .ref p ∧ y = .int i ∧ SqL K H p xs ∧ atI xs i = some v ∧ Q v H
def rIxT (K : PySem.W.Frag) : R2 := fun x y H Q => ∃ p xs i v, x = .ref p ∧ y = .int i ∧ SqT K H p xs ∧ atI xs i = some v ∧ Q v H
theorem ix_list : IxR X (rIxL X.K) := by
  intro value slice pins s σ H x y v u Q I rx ry h hs
  obtain ⟨p, xs, i, z, rfl, rfl, hq, he, q⟩ := h
  cases rx
  obtain ⟨t, rfl⟩ := ry
  obtain ⟨its, r, pl, hz⟩ := I.list hq
  obtain ⟨j, h1, h2, h3, h4, h5⟩ := atI_get he
  obtain ⟨w, ew, rw'⟩ := r.get h2
  have hl := r.length
  have hn := line63
  have fin : EP X pins σ Q w s := ⟨z, H, I, rw', q⟩
  by_cases h0 : 0 ≤ i
  · have hj : i.toNat = j := by
      rw [seqIndex_of h0 h5] at h1
      exact Option.some.inj h1
    exact item_listR pl.isList h0 (by omega) (by rw [hj]; simpa using ew) fin hs
  · have hj : (i + (its.toArray.size : Int)).toNat = j := by
      rw [seqIndex_neg (by omega) h4] at h1
      rw [List.size_toArray, ← hl]
      exact Option.some.inj h1
    exact subscriptTail_builtinR (x := w) pl.isList.typeIs slot_list_getitem.lookup
      (wpAny_getItem_list_neg (Q := fun r s' => r = w ∧ EP X pins σ Q r s') pl.isList (by omega) (by rw [List.size_toArray] <;> omega) (by omega) (by rw [hj]; simpa using ew) ⟨rfl, fin⟩) hs
theorem ix_tup : IxR X (rIxT X.K) := by
  intro value slice pins s σ H x y v u Q I rx ry h hs
  obtain ⟨p, xs, i, z, rfl, rfl, hq, he, q⟩ := h
  cases rx
  obtain ⟨t, rfl⟩ := ry
  obtain ⟨its, r, pl, hz⟩ := I.tuple hq
  obtain ⟨j, h1, h2, h3, h4, h5⟩ := atI_get he
  obtain ⟨w, ew, rw'⟩ := r.get h2
  have hl := r.length
  have hn := line63
  have fin : EP X pins σ Q w s := ⟨z, H, I, rw', q⟩
  exact subscriptTail_builtinR (x := w) pl.typeIs slot_tuple_getitem.lookup
    (getItem_tuple (j := j) (Q := fun r s' => r = w ∧ EP X pins σ Q r s') pl (by omega) (by omega) (by rw [List.size_toArray, ← hl]; exact h1) (by simpa using ew) ⟨rfl, fin⟩) hs
theorem mapSeq_set (its : List Value) (n j : Nat) (u : Value) : Obj.mapSeq (·.setIfInBounds j u) { cls := .type "list", data := .seq its.toArray n } = { cls := .type "list", data := .seq (its.set j u).toArray n } := by
  simp [Obj.mapSeq]
theorem Inv.lst {pins : List (Addr × Obj)} {σ : St} {H : Hp} {s : Shared} {p : Addr} {xs : List V} (I : Inv X pins σ H s) (h : H p = some (.lst xs)) :
    ∃ (its : List Value) (n : Nat), Vals xs its ∧ s.heap.get? p = some { cls := .type "list", data := .seq its.toArray n } ∧ xs.length ≤ sizeLine := by
  obtain ⟨z, its, n, r, e⟩ := I.hok p _ h
  exact ⟨its, n, r, e, z⟩
theorem Inv.lstUpd {pins : List (Addr × Obj)} {σ : St} {H : Hp} {s : Shared} {p : Addr} {xs ys : List V} {its its' : List Value} {n n' : Nat} {f : Obj → Obj} (I : Inv X pins σ H s) (h : H p = some (.lst xs))
    (ho : s.heap.get? p = some { cls := .type "list", data := .seq its.toArray n }) (hf : f { cls := .type "list", data := .seq its.toArray n } = { cls := .type "list", data := .seq its'.toArray n' }) (r : Vals ys its') (hz : ys.length ≤ sizeLine) (t : Nat) :
    Inv X pins σ (upd H p (.lst ys)) { s with heap := s.heap.update p f, toks := t } := by
  have e : (s.heap.update p f).get? p = some { cls := .type "list", data := .seq its'.toArray n' } := by
    rw [Heap.get?_update_self f ho (by rw [hf] <;> rfl), hf]
  refine I.write (x := p) (e := p) (by rw [h]; trivial) (.inl rfl) (fun b u hb q => (Heap.get?_update_other _ _ (Ne.symm hb)).trans q) ⟨_, e⟩ ?_
  exact ⟨hz, its', n', r, e⟩
def rSetL : V → V → V → Hp → (Hp → Prop) → Prop := fun o i v H Q => ∃ p xs k j, o = .ref p ∧ i = .int k ∧ H p = some (.lst xs) ∧ ixN xs.length k = some j ∧ Q (upd H p (.lst (xs.set j v)))
theorem set_list : PSet X rSetL := by
  intro pins s σ H o i v ov iv u Q I ro ri rv h
  obtain ⟨p, xs, k, j, rfl, rfl, hp, hj, q⟩ := h
  cases ro
  obtain ⟨t, rfl⟩ := ri
  obtain ⟨its, n, r, ho, hz⟩ := I.lst hp
  obtain ⟨h1, h2, h3, h4⟩ := ixN_seq hj
  have hl := r.length
  have hn := line63
  have I' : Inv X pins σ (upd H p (.lst (xs.set j v))) { s with heap := s.heap.update p (Obj.mapSeq (·.setIfInBounds j u)) } :=
    I.lstUpd hp ho (mapSeq_set its n j u) (r.set rv j) (by rw [List.length_set]; exact hz) s.toks
  by_cases h0 : 0 ≤ k
  · have hk : k.toNat = j := by
      rw [seqIndex_of h0 h4] at h1
      exact Option.some.inj h1
    exact PySem.W.ki_setAt ho h0 (by omega) (by rw [List.size_toArray, ← hl]; exact h4) (by rw [hk]; exact ⟨_, I', q⟩)
  · have hk : (k + (its.toArray.size : Int)).toNat = j := by
      rw [seqIndex_neg (by omega) h3] at h1
      rw [List.size_toArray, ← hl]
      exact Option.some.inj h1
    exact PySem.W.ki_setBack ho (by omega) (by rw [List.size_toArray, ← hl]; exact h3) (by omega) (by rw [hk]; exact ⟨_, I', q⟩)
def rSlL (K : PySem.W.Frag) : V → Option Int → Option Int → Hp → VK → Prop := fun x lo hi H Q => ∃ a xs, x = .ref a ∧ SqL K H a xs ∧ ∀ p, H p = none → Q (.ref p) (upd H p (.lst (cutV xs lo hi)))
def flatV : V → Bool
  | .non => true
  | .bl _ => true
  | .int _ => true
  | .str _ => true
  | _ => false
def eqV : V → V → Bool
  | .non, .non => true
  | .bl a, .bl b => a == b
  | .bl a, .int b => (if a then 1 else 0) == b
  | .int a, .bl b => a == (if b then 1 else 0)
  | .int a, .int b => a == b
  | .str a, .str b => a == b
  | _, _ => false
theorem eqAt_V {A : Around} {s : Shared} {y x : V} {u v : Value} (ry : RelV y u) (rx : RelV x v) (fy : flatV y = true) (fx : flatV x = true) : SeqAt.EqAt A s u v (eqV y x) := by
  cases y with
  | non =>
    cases ry
    cases x with
    | non => cases rx; exact SeqAt.EqAt.same _
    | bl b => cases rx; exact SeqAt.EqAt.none_bool b
    | int b => obtain ⟨t, rfl⟩ := rx; exact SeqAt.EqAt.none_int b t
    | str b => obtain ⟨t, rfl⟩ := rx; exact SeqAt.EqAt.none_str b t
    | _ => exact absurd (show false = true from fx) Bool.false_ne_true
  | bl a =>
    cases ry
    cases x with
    | non => cases rx; exact SeqAt.EqAt.bool_none a
    | bl b => cases rx; exact SeqAt.EqAt.bool_bool a b
    | int b => obtain ⟨t, rfl⟩ := rx; exact SeqAt.EqAt.bool_int a b t
    | str b => obtain ⟨t, rfl⟩ := rx; exact SeqAt.EqAt.bool_str a b t
    | _ => exact absurd (show false = true from fx) Bool.false_ne_true
  | int a =>
    obtain ⟨t', rfl⟩ := ry
    cases x with
    | non => cases rx; exact SeqAt.EqAt.int_none a t'
    | bl b => cases rx; exact SeqAt.EqAt.int_bool a t' b
    | int b => obtain ⟨t, rfl⟩ := rx; exact SeqAt.EqAt.int_int a t' b t
    | str b => obtain ⟨t, rfl⟩ := rx; exact SeqAt.EqAt.int_str a t' b t
    | _ => exact absurd (show false = true from fx) Bool.false_ne_true
  | str a =>
    obtain ⟨t', rfl⟩ := ry
    cases x with
    | non => cases rx; exact SeqAt.EqAt.str_none a t'
    | bl b => cases rx; exact SeqAt.EqAt.str_bool a t' b
    | int b => obtain ⟨t, rfl⟩ := rx; exact SeqAt.EqAt.str_int a t' b t
    | str b => obtain ⟨t, rfl⟩ := rx; exact SeqAt.EqAt.str_str a t' b t
    | _ => exact absurd (show false = true from fx) Bool.false_ne_true
  | _ => exact absurd (show false = true from fy) Bool.false_ne_true
theorem call_len_seq : CallR X (.builtin "len") (fun xs H Q => ∃ p ys, xs = [.ref p] ∧ (SqL X.K H p ys ∨ SqT X.K H p ys) ∧ Q (.int ys.length) H) := by
  intro pins s σ H xs us Q I r h
  obtain ⟨p, ys, rfl, hq, q⟩ := h
  obtain ⟨u, rfl, rx⟩ := vals1 r
  cases rx
  have hn := line63
  rcases hq with hq | hq
  · obtain ⟨its, r', pl, hz⟩ := I.list hq
    have hlen := r'.length
    exact Calls.call_len_list pl.isList (by simp only [List.size_toArray] <;> omega) ⟨.int ys.length, H, I.tok _, ⟨s.toks + 1, by rw [List.size_toArray, hlen]⟩, q⟩
  · obtain ⟨its, r', pl, hz⟩ := I.tuple hq
    have hlen := r'.length
    exact len_tuple pl (by simp only [List.size_toArray] <;> omega) ⟨.int ys.length, H, I.tok _, ⟨s.toks + 1, by rw [List.size_toArray, hlen]⟩, q⟩
theorem call_list_of : CallR X (.type "list") (fun xs H Q => ∃ p ys, xs = [.ref p] ∧ (SqL X.K H p ys ∨ SqT X.K H p ys) ∧ ∀ l, H l = none → Q (.ref l) (upd H l (.lst ys))) := by
  intro pins s σ H xs us Q I r h
  obtain ⟨p, ys, rfl, hq, q⟩ := h
  obtain ⟨u, rfl, rx⟩ := vals1 r
  cases rx
  have fin : ∀ (its : List Value), Vals ys its → ys.length ≤ sizeLine → ∀ (h' : Heap) (c' : Nat), (∀ b o', s.heap.get? b = some o' → h'.get? b = some o') →
      h'.get? s.heap.objs.size = some { cls := .type "list", dict := none, data := .seq its.toArray c', slots := #[] } → EP X pins σ Q (.ref s.heap.objs.size) { s with heap := h' } := fun its r' hz h' c' kp e =>
    ⟨.ref s.heap.objs.size, _, I.laid (t' := s.toks) kp (Nat.le_refl _) (show ObjOk X.prog X.w _ h' _ (.lst ys) from ⟨hz, its, c', r', e⟩), rfl, q _ (I.hok.fresh (Nat.le_refl _))⟩
  rcases hq with hq | hq
  · obtain ⟨its, r', pl, hz⟩ := I.list hq
    have hlen := r'.length
    obtain ⟨o, ho, hc, n, hd⟩ := pl.isList
    exact call_list_seq p (.inl rfl) ho hc hd (fun h' c' kp e => fin its r' hz h' c' kp e) (by simp only [List.size_toArray] <;> omega)
  · obtain ⟨its, r', pl, hz⟩ := I.tuple hq
    have hlen := r'.length
    obtain ⟨o, ho, hc, n, hd⟩ := pl
    exact call_list_seq p (.inr rfl) ho hc hd (fun h' c' kp e => fin its r' hz h' c' kp e) (by simp only [List.size_toArray] <;> omega)
def tyV (K : PySem.W.Frag) (T : String) (x : V) (H : Hp) : Prop := match x with
  | .str _ => T = "str"
  | .int _ => T = "int"
  | .ref p => (T = "list" ∧ ∃ xs, SqL K H p xs) ∨ (T = "tuple" ∧ ∃ o, K.lookup p = some o ∧ o.cls = .type "tuple" ∧ o.dict = none) ∨
      (T = "dict" ∧ ((∃ kvs, H p = some (.dK kvs)) ∨ ∃ kvs, H p = some (.dT kvs))) ∨ (T = "set" ∧ ∃ S n, H p = some (.set S n))
  | _ => False
theorem tyV_is {pins : List (Addr × Obj)} {σ : St} {H : Hp} {s : Shared} {T : String} {x : V} {v : Value} (I : Inv X pins σ H s) (r : RelV x v) (ty : tyV X.K T x H) :
    s.TypeIs v T ∧ ∀ a, v = .ref a → ∃ ob, s.heap.get? a = some ob ∧ ob.dict = none := by
  cases x with
  | str z =>
    obtain ⟨t, rfl⟩ := r
    cases (show T = "str" from ty)
    exact ⟨typeIs_str s z t, fun _ e => nomatch e⟩
  | int i =>
    obtain ⟨t, rfl⟩ := r
    cases (show T = "int" from ty)
    exact ⟨typeIs_int s i t, fun _ e => nomatch e⟩
  | ref p =>
    cases r
    rcases ty with ⟨rfl, xs, hq⟩ | ⟨rfl, o, hk, hc, hd⟩ | ⟨rfl, hk⟩ | ⟨rfl, S, n, hk⟩
    · obtain ⟨its, _, pl, _⟩ := I.list hq
      refine ⟨pl.isList.typeIs, fun a e => ?_⟩
      cases e
      obtain ⟨o, n, e, c, hd, _⟩ := pl
      exact ⟨o, e, hd⟩
    · refine ⟨⟨o, I.kIn p o hk, hc⟩, fun a e => ?_⟩
      cases e
      exact ⟨o, I.kIn _ o hk, hd⟩
    · have z : ∃ o, s.heap.get? p = some o ∧ o.ExactDict := by
        rcases hk with ⟨kvs, hk⟩ | ⟨kvs, hk⟩
        · obtain ⟨_, _, _, _, o, _, _, e, ex, _⟩ := I.hok p _ hk
          exact ⟨o, e, ex⟩
        · obtain ⟨_, _, _, _, o, _, _, e, ex, _⟩ := I.hok p _ hk
          exact ⟨o, e, ex⟩
      obtain ⟨o, e, ex⟩ := z
      refine ⟨⟨o, e, ex.1⟩, fun a e2 => ?_⟩
      cases e2
      exact ⟨o, e, ex.2.1⟩
    · obtain ⟨o, _, _, _, e, ex, _⟩ := I.hok p _ hk
      refine ⟨⟨o, e, ex.1⟩, fun a e2 => ?_⟩
      cases e2
      exact ⟨o, e, ex.2.1⟩
  | _ => exact False.elim ty
def tBM0 (K : PySem.W.Frag) (T : String) (r : V → List V → Hp → VK → Prop) (to : TE) : TE := fun σ H Q => to σ H fun x H1 => tyV K T x H1 ∧ r x [] H1 Q
def tBM (K : PySem.W.Frag) (T : String) (r : V → List V → Hp → VK → Prop) (to : TE) (t : TA) : TE := fun σ H Q => to σ H fun x H1 => tyV K T x H1 ∧ t σ H1 fun xs H2 => r x xs H2 Q
variable {o e : Expr} {es : List Expr} {to : TE} {t : TA} {name : Str} {apos cpos : Pos} {T id : String} {r : V → List V → Hp → VK → Prop}
theorem pe_bm0 (pa : PlainAttrs T) (slot : Slot T name id) (hty : typeOf (.builtin id) = pure (.type "method_descriptor")) (hm : MtR X id r) (ho : PE X o to)
    (hbase : attributeBase o name X.env (eval o X.env) = eval o X.env := by rfl) (hline : (apos.endLine == cpos.line) = true := by rfl) : PE X (.Call (.Attribute o name apos) [] [] cpos) (tBM0 X.K T r to) := by
  intro pins s σ H Q I h
  refine wpAny_Call_method0_late hbase hline (thn (ho pins s σ H _ I h) fun v s1 ⟨x, H1, I1, r1, ty, q1⟩ => ?_)
  obtain ⟨h1, h2⟩ := tyV_is I1 r1 ty
  exact ⟨T, id, pa, slot, hty, h1, h2, Calls.callWith_builtin rfl (PySem.evalArgs_none (hm pins s1 σ H1 x [] v [] Q I1 r1 .nil q1))⟩
theorem pe_bm (pa : PlainAttrs T) (slot : Slot T name id) (hty : typeOf (.builtin id) = pure (.type "method_descriptor")) (hm : MtR X id r) (ho : PE X o to) (ha : PA X (e :: es) t)
    (hbase : attributeBase o name X.env (eval o X.env) = eval o X.env := by rfl)
    (hfew : ((backTo cpos (starEach (e :: es) X.env)).all (fun x => !x.1) && (backToKw cpos (keywordEach [] X.env)).all (fun x => x.1.isSome)
      && decide ((e :: es).length + ([] : List Keyword).length + (if ([] : List Keyword).isEmpty then 0 else 1) < 30)) = true := by rfl)
    (hline : (apos.endLine == cpos.line) = true := by rfl) (hs : starEach (e :: es) X.env = (false, eval e X.env) :: starEach es X.env := by rfl) (hplain : (backTo cpos (starEach es X.env)).any (·.1) = false := by rfl) :
    PE X (.Call (.Attribute o name apos) (e :: es) [] cpos) (tBM X.K T r to t) := by
  intro pins s σ H Q I h
  refine wpAny_Call_method_late hbase hfew hline rfl (thn (ho pins s σ H _ I h) fun v s1 ⟨x, H1, I1, r1, ty, q1⟩ => ?_)
  obtain ⟨h1, h2⟩ := tyV_is I1 r1 ty
  refine ⟨T, id, pa, slot, hty, h1, h2, ?_⟩
  have hA := ha cpos pins s1 σ H1 _ I1 q1
  rw [hs] at hA ⊢
  refine Calls.callWith_builtin (by show (false || (backTo cpos (starEach es X.env)).any (·.1)) = false; rw [hplain] <;> rfl) (Calls.evalArgs_plain ?_)
  exact thn hA fun us s2 ⟨vs, H2, I2, r2, q2⟩ => hm pins s2 σ H2 x vs v us Q I2 r1 r2 q2
end
end L2
namespace L2
open PySem PySem.Spec PyProof.Rows
def MtM (X : Cx) (id : String) (r : V → List V → Hp → VK → Prop) : Prop :=
  ∀ (pins : List (Addr × Obj)) (s : Shared) (σ : St) (H : Hp) (x : V) (xs : List V) (v : Value) (us : List Value) (Q : VK), Inv X pins σ H s → RelV x v → Vals xs us → r x xs H Q →
    wpAny (model X.prog X.w) X.A (call (.builtin id) (v :: us)) (EP X pins σ Q) X.xe s
theorem Vals.one : ∀ {x : V} {us : List Value}, Vals [x] us → ∃ u, us = [u] ∧ RelV x u
  | _, _, .cons r .nil => ⟨_, rfl, r⟩
theorem Vals.two : ∀ {x y : V} {us : List Value}, Vals [x, y] us → ∃ u v, us = [u, v] ∧ RelV x u ∧ RelV y v
  | _, _, _, .cons r (.cons q .nil) => ⟨_, _, rfl, r, q⟩
theorem Vals.zero : ∀ {us : List Value}, Vals [] us → us = []
  | _, .nil => rfl
section
variable {X : Cx} {pins : List (Addr × Obj)} {σ : St} {H : Hp} {s : Shared} {l b : Addr} {xs ys zs : List V}
theorem Inv.lset {its its' : List Value} {n : Nat} {f : Array Value → Array Value} {t' : Nat} (I : Inv X pins σ H s) (hH : H l = some (.lst xs))
    (e : s.heap.get? l = some { cls := .type "list", data := .seq its.toArray n }) (hf : f its.toArray = its'.toArray) (hv : Vals ys its') (hz : ys.length ≤ sizeLine) :
    Inv X pins σ (upd H l (.lst ys)) { s with heap := s.heap.update l (Obj.mapSeq f), toks := t' } := by
  have q := PySem.IsL.update e f
  rw [hf] at q
  refine I.write (x := l) (e := l) (by rw [hH]; exact trivial) (.inl rfl) (fun b' u hb hu => (Heap.get?_update_other s.heap (Obj.mapSeq f) (Ne.symm hb)).trans hu) ⟨_, q⟩ ?_
  exact ⟨hz, its', _, hv, q⟩
theorem Inv.lnew {its : List Value} {t' : Nat} (I : Inv X pins σ H s) (hv : Vals ys its) (hz : ys.length ≤ sizeLine) :
    Inv X pins σ (upd H s.heap.objs.size (.lst ys)) { s with heap := s.heap.push { cls := .type "list", data := .seq its.toArray }, toks := t' } :=
  I.laid (fun _ _ q => Heap.get?_push_of_some _ q) (Nat.le_refl _) ⟨hz, its, 0, hv, Heap.get?_push_size _ rfl⟩
theorem Inv.fresh (I : Inv X pins σ H s) : H s.heap.objs.size = none := I.hok.fresh (Nat.le_refl _)
theorem Inv.lstM (I : Inv X pins σ H s) (hH : H l = some (.lst xs)) : xs.length ≤ sizeLine ∧ ∃ (its : List Value) (n : Nat), Vals xs its ∧ xs.length = its.length ∧ s.heap.get? l = some { cls := .type "list", data := .seq its.toArray n } := by
  obtain ⟨z, its, n, r, e⟩ := I.hok l _ hH
  exact ⟨z, its, n, r, r.length, e⟩
end
section
variable {X : Cx}
def rAppend : V → List V → Hp → VK → Prop := fun x vs H Q => ∃ l xs y, x = .ref l ∧ vs = [y] ∧ H l = some (.lst xs) ∧ xs.length < sizeLine ∧ Q .non (upd H l (.lst (xs ++ [y])))
theorem mt_append : MtM X "list.append" rAppend := by
  intro pins s σ H x vs v us Q I rx rv h
  obtain ⟨l, xs, y, rfl, rfl, hH, hz, q⟩ := h
  cases rx
  obtain ⟨u, rfl, ru⟩ := rv.one
  obtain ⟨z, its, n, r, hl, e⟩ := I.lstM hH
  refine call_meets F.slot_list_append ⟨_, e, rfl⟩ F.entry_list_append (F.args_list_append_2 _ _) (PySem.list_append l its.toArray n u (by rw [List.size_toArray]; omega)) ⟨e, ?_⟩
  refine ⟨.non, _, I.lset (its' := its ++ [u]) hH e (by simp) (r.append (.cons ru .nil)) ?_, rfl, q⟩
  rw [List.length_append, List.length_singleton]
  omega
def rExtend : V → List V → Hp → VK → Prop := fun x vs H Q => ∃ l b xs zs, x = .ref l ∧ vs = [.ref b] ∧ H l = some (.lst xs) ∧ H b = some (.lst zs) ∧ xs.length + zs.length ≤ sizeLine ∧ Q .non (upd H l (.lst (xs ++ zs)))
def rPop : V → List V → Hp → VK → Prop := fun x vs H Q => ∃ l xs y, x = .ref l ∧ vs = [] ∧ H l = some (.lst xs) ∧ xs[xs.length - 1]? = some y ∧ Q y (upd H l (.lst xs.dropLast))
def rReverse : V → List V → Hp → VK → Prop := fun x vs H Q => ∃ l xs, x = .ref l ∧ vs = [] ∧ H l = some (.lst xs) ∧ Q .non (upd H l (.lst xs.reverse))
def rClear : V → List V → Hp → VK → Prop := fun x vs H Q => ∃ l xs, x = .ref l ∧ vs = [] ∧ H l = some (.lst xs) ∧ Q .non (upd H l (.lst []))
theorem mt_clear : MtM X "list.clear" rClear := by
  intro pins s σ H x vs v us Q I rx rv h
  obtain ⟨l, xs, rfl, rfl, hH, q⟩ := h
  cases rx
  have hus := rv.zero
  subst hus
  obtain ⟨z, its, n, r, hl, e⟩ := I.lstM hH
  refine call_meets F.slot_list_clear ⟨_, e, rfl⟩ F.entry_list_clear (F.args_list_clear_1 _) (AutoSeq1.list_clear_list_0 l its.toArray n (by rw [List.size_toArray]; omega)) ⟨e, ?_⟩
  exact ⟨.non, _, I.lset (its' := []) (ys := []) hH e rfl .nil (Nat.zero_le _), rfl, q⟩
def rCat : R2 := fun x y H Q => ∃ l b xs zs, x = .ref l ∧ y = .ref b ∧ H l = some (.lst xs) ∧ H b = some (.lst zs) ∧ xs.length + zs.length ≤ sizeLine ∧ ∀ p, H p = none → Q (.ref p) (upd H p (.lst (xs ++ zs)))
theorem op_cat : OpR X (binaryOp .Add) rCat := by
  intro pins s σ H x y v u Q I rx ry h
  obtain ⟨l, b, xs, zs, rfl, rfl, hH, hB, hz, q⟩ := h
  cases rx
  cases ry
  obtain ⟨z, its, n, r, hl, e⟩ := I.lstM hH
  obtain ⟨z2, its2, n2, r2, hl2, e2⟩ := I.lstM hB
  refine PySem.P.add_list e e2 ?_ (by rw [List.size_toArray, List.size_toArray]; omega)
  have ea : its.toArray ++ its2.toArray = (its ++ its2).toArray := by simp
  rw [ea]
  exact ⟨.ref _, _, I.lnew (t' := s.toks) (r.append r2) (by rw [List.length_append]; omega), rfl, q _ I.fresh⟩
end
section
variable {prog : Program} {w : World} {A : Around} {E : Value → Shared → Prop} {s : Shared}
end
section
variable {X : Cx}
end
end L2
namespace L2
open PySem PySem.Spec PyProof.Rows
section
variable {κ : Type} [DecidableEq κ]
def valV (kvs : List (κ × V)) (k : κ) : Option V := (kvs.find? fun kv => decide (kv.1 = k)).map (·.2)
def putK (kvs : List (κ × V)) (k : κ) (v : V) : List (κ × V) :=
  if (kvs.any fun kv => decide (kv.1 = k)) = true then kvs.map (fun kv => if kv.1 = k then (kv.1, v) else kv) else kvs ++ [(k, v)]
theorem valV_pos {p : κ × V} {r : List (κ × V)} {k : κ} (e : p.1 = k) : valV (p :: r) k = some p.2 := by simp [valV, List.find?_cons, e]
theorem valV_neg {p : κ × V} {r : List (κ × V)} {k : κ} (e : ¬ p.1 = k) : valV (p :: r) k = valV r k := by simp [valV, List.find?_cons, e]
theorem valV_any (k : κ) : ∀ kvs : List (κ × V), (kvs.any fun kv => decide (kv.1 = k)) = (valV kvs k).isSome
  | [] => rfl
  | p :: r => by
    rw [List.any_cons]
    by_cases e : p.1 = k
    · simp only [valV_pos e, decide_eq_true e, Bool.true_or, Option.isSome_some]
    · rw [valV_neg e, decide_eq_false e, Bool.false_or]; exact valV_any k r
end
section
variable {P : Program} {w : World} {H : Hp} {h : Heap} {a : Addr}
end
section
variable {X : Cx} {pins : List (Addr × Obj)} {σ : St} {H : Hp} {s : Shared} {a : Addr} {y v : V} {u r : Value} {o : Option V} {A : Around} {E : Value → Shared → Prop}
end
section
variable {X : Cx} {pins : List (Addr × Obj)} {σ : St} {H : Hp} {s : Shared} {a : Addr} {kvs : List (Key × V)} {k : Key} {u : Value} {A : Around} {E : Value → Shared → Prop}
end
section
variable {X : Cx} {o i e value : Expr} {pos pos' tpos : Pos} {td ty tv : TE}
end
def tDNewK : TE := fun _ H Q => ∀ p, H p = none → Q (.ref p) (upd H p (.dK []))
section
variable {X : Cx} {pos : Pos}
end
def tPairs : List (TE × TE) → St → Hp → (List (V × V) → Hp → Prop) → Prop
  | [], _, H, Q => Q [] H
  | (tk, tv) :: r, σ, H, Q => tk σ H fun x H1 => tv σ H1 fun y H2 => tPairs r σ H2 fun ps H3 => Q ((x, y) :: ps) H3
def mergeK (kvs more : List (Key × V)) : List (Key × V) := more.foldl (fun acc kv => putK acc kv.1 kv.2) kvs
def tDisp (trs : List (TE × TE)) : TE := fun σ H Q => ∀ p, H p = none → tPairs trs σ (upd H p (.dK [])) fun ps H2 => H2 p = some (.dK []) ∧ ∃ kvs : List (Key × V), ps = kvs.map (fun kv => (kV kv.1, kv.2)) ∧ kvs.length ≤ 15 ∧ Q (.ref p) (upd H2 p (.dK (mergeK [] kvs)))
section
variable {X : Cx} {pins : List (Addr × Obj)} {σ : St} {H : Hp} {s : Shared} {a : Addr} {y d : V} {u r : Value} {o : Option V} {A : Around} {E : Value → Shared → Prop}
end
section
variable {X : Cx} {o e f : Expr} {apos cpos : Pos} {td ty tx : TE}
end
section
variable {X : Cx} {pins : List (Addr × Obj)} {σ : St} {H : Hp} {s : Shared} {a : Addr} {kvs : List (Key × V)} {A : Around} {E : Value → Shared → Prop}
end
section
variable {X : Cx} {pins : List (Addr × Obj)} {σ : St} {H : Hp} {s : Shared} {a : Addr} {y : V} {u : Value} {A : Around} {E : Value → Shared → Prop}
end
end L2
namespace Att
open PySem PySem.W PySem.Calls PyProof.Rows
theorem ints_of_wellAll {P : Params} {h : Heap} : ∀ (ns : List Int) (vs : List Value), WellAll P h vs (ns.map WData.int) → IntsAre vs ns := by
  intro ns
  induction ns with
  | nil =>
    intro vs w
    rw [List.map_nil] at w
    cases w
    exact .nil
  | cons n ns ih =>
    intro vs w
    rw [List.map_cons] at w
    cases w with
    | cons a b =>
      cases a
      exact .cons _ _ (ih _ b)
theorem script_of {l : OpenLaw} {n : Nat} (hn : l.most = some n) {P : Params} {h : Heap} {args : List WData} {vals : List Value}
    (hpre : l.row.toRowW.claim.pre args = true) (hwl : WellAll P h vals args) :
    ∃ a vs ns, vals = [Value.ref a] ∧ args = [WData.list (ns.map WData.int)] ∧ h.get? a = some { cls := .type "list", data := .seq vs.toArray } ∧ IntsAre vs ns ∧ ns.length ≤ n := by
  have hsh : WShape.hasAll [] args [.list .int] = true := (pre_splitW hpre).1
  have hc : l.pre.holds [] { args := args } = true := (pre_splitW hpre).2
  obtain ⟨d, r, rfl, h1, h2⟩ := hasAllW_cons hsh
  obtain rfl := hasAllW_nil h2
  obtain ⟨xs, rfl, h3⟩ := hasW_list h1
  obtain ⟨ns, rfl⟩ := items_int h3
  have hlen : ns.length ≤ n := by
    unfold OpenLaw.pre at hc
    have h4 : (WTm.not (.lt (.lit (.int (n : Int))) (.len (.arg 0)))).holds [] { args := [.list (ns.map .int)] } = true := by
      have h4 := (holds_andW hc).1
      rw [hn] at h4
      exact h4
    have h5 := condW_of h4 (w_not (w_lt w_lit (w_len_list (w_arg rfl))))
    rw [List.length_map] at h5
    refine Nat.le_of_not_lt fun q => ?_
    have q' : (n : Int) < ((ns.length : Nat) : Int) := by omega
    first
      | (rw [decide_eq_true q'] at h5; exact absurd h5 (by decide))
      | (simp at h5; omega)
  cases hwl with
  | cons w1 w2 =>
    cases w2
    cases w1 with
    | list ho hall => exact ⟨_, _, ns, rfl, rfl, ho, ints_of_wellAll ns _ hall, hlen⟩
theorem post_true (l : OpenLaw) (args : List WData) : l.row.toRowW.claim.post args (.bool true) args = true :=
  postW_of (r := l.row.toRowW) (X := (true == true))
    (show WShape.has [] (.bool true) .bool = true by first | rfl | decide | simp [WShape.has, WShape.arms, WShape.armsAll])
    (show (WTm.eq .res (.lit (.bool true))).value [] { args := args, res := some (.bool true), after := args } = some (.bool (true == true)) from w_eq_bool (w_res rfl) w_lit) rfl
theorem attach_call {l : OpenLaw} {n : Nat} {q : Program} {loose : List Str} {XP : (Str → Option Value) → Heap → Prop} {YP : World → Heap → Prop} {d : DefRec}
    (hn : l.most = some n) (hdf : d.params.defaults = [])
    (call : ∀ (w : World) (s₀ s₁ : Shared) (mg mb : Str → Option Value) (fa : Addr) (o : Obj) (pm cd doc : Value) (a : Addr) (vs : List Value) (ns : List Int),
      Ground q loose [] XP w s₀ mg mb s₁.heap → YP w s₁.heap →
      s₁.heap.get? fa = some o → o.data = .func (docDef d.name d.params d.body d.scope pm cd doc) → s₁.heap.CodeRec cd d.name → mg d.name = some (.ref fa) →
      s₁.heap.get? a = some { cls := .type "list", data := .seq vs.toArray } → IntsAre vs ns → ns.length ≤ n → s₁.gens = #[] →
      codeAny (model l.prog w) callerA (.call (.ref fa) ⟨[.ref a], []⟩) (fun r s' => r = .ok (.ret (.bool true)) ∧ OldK s₁.heap s'.heap ∧ s'.os = s₁.os ∧ AllBare s'.gens) s₁) :
    WalkO q loose XP YP l.row.toRowW d [] (fun f vs => PySem.call f vs) := by
  intro w s₀ s₁ mg mb G Y fa o pm cd doc dV kV ho hd hcd hD hmg hg args vals as hpre hlay hrd hwl hlo
  obtain rfl : dV = .none := Dflts.none hD hdf
  obtain rfl : kV = .none := Dflts.noKw hD
  obtain ⟨a, vs, ns, rfl, rfl, hobj, hints, hlen⟩ := script_of hn hpre hwl
  refine enter_call (codeAny_mono (call w s₀ s₁ mg mb fa o pm cd doc a vs ns G Y ho (fd_plain hd) hcd hmg hobj hints hlen hg) fun r s' hq => ?_)
  obtain ⟨rfl, h2, h3, h4⟩ := hq
  exact ⟨.inl ⟨.bool true, .bool true, [], rfl, fun _ => rfl, .bool true, post_true l _, fun _ => ⟨List.Pairwise.nil, fun _ hm => (nomatch hm)⟩⟩, h2, h3, h4⟩
section
variable {prog : Program} {w : World} {A : Around} {E : Value → Shared → Prop} {s : Shared} {K : Frag}
end
end Att
namespace L2
open PySem PySem.Spec PyProof.Rows
theorem vals_ints : ∀ {vs : List Value} {ns : List Int}, IntsAre vs ns → Vals (ns.map V.int) vs
  | _, _, .nil => .nil
  | _, _, .cons n t h => .cons ⟨t, rfl⟩ (vals_ints h)
def Only (H : Hp) : Prop := ∀ b, H b = none ∨ ∃ o xs, H b = some (.frz o (.lst xs))
theorem law_call {P : Program} {w : World} {K : PySem.W.Frag} {mg mb : Str → Option Value} {CX : CXT} {k : Nat} {fa a : Addr} {fd : FuncData} {x : Str} {sp : Sp} {s₁ : Shared} {vs : List Value} {ns : List Int}
    (KX : K.In s₁.heap) (hns : s₁.heap.Ns mainGlobals mg) (hb : s₁.heap.Ns builtinsNs mb) (hbb : ∀ x : Str, x ≠ "__name__" → mb x = bootBuiltins x) (hlim : s₁.heap.NoLimit) (hg : s₁.gens = #[])
    (ha : s₁.heap.get? a = some { cls := .type "list", data := .seq vs.toArray }) (hi : IntsAre vs ns) (hl : ns.length ≤ sizeLine) (hr : Room k callerA)
    (F : ∀ base : Heap, K.In base → base.Ns mainGlobals mg → FnOk P w K mg base CX k fa fd [x] sp) (hbind : ∀ (s : Shared) (u : Value), BindsTo s fd ⟨[u], []⟩ [(x, u)])
    (hsp : ∀ H : Hp, Only H → SqL K H a (ns.map V.int) → sp [.ref a] H (fun v _ => v = .bl true) fun _ _ _ => False)
    (hCX : ∀ H e s', CX [] H s₁ (fun _ _ _ => False) e s' → False) :
    codeAny (model P w) callerA (.call (.ref fa) ⟨[.ref a], []⟩) (fun r s' => r = .ok (.ret (.bool true)) ∧ OldK s₁.heap s'.heap ∧ s'.os = s₁.os ∧ AllBare s'.gens) s₁ := by
  have rv := vals_ints hi
  have lenV := hi.length
  -- from an abstract heap in which nothing but the script may be tracked
  have core : ∀ H : Hp, Only H → SqL K H a (ns.map V.int) → HOk P w H s₁.heap → (∀ b, H b ≠ none → b = a) → (H a ≠ none → K.lookup a = none) →
      codeAny (model P w) callerA (.call (.ref fa) ⟨[.ref a], []⟩) (fun r s' => r = .ok (.ret (.bool true)) ∧ OldK s₁.heap s'.heap ∧ s'.os = s₁.os ∧ AllBare s'.gens) s₁ := by
    intro H hO hS hok hA hK
    have base_of : ∀ {b : Addr} {o : Obj}, s₁.heap.get? b = some o → H b = none → (hidT s₁.heap H).get? b = some o := fun e n => hidT_get e n
    have noA : ∀ {b : Addr} {o : Obj} {es : Array DictEntry} {ep : Nat}, s₁.heap.get? b = some o → o.data = .dict es ep → H b = none := fun {b o es ep} e d => by
      cases q : H b with
      | none => rfl
      | some u =>
        have e' : b = a := hA b (by rw [q]; simp)
        subst e'
        rw [ha] at e; cases e
        have d' : Data.seq vs.toArray _ = Data.dict es ep := d
        cases d'
    have nsK : ∀ {b : Addr} {m : Str → Option Value}, s₁.heap.Ns b m → (hidT s₁.heap H).Ns b m := fun {b m} ⟨o, es, ep, e, d, r⟩ => ⟨o, es, ep, base_of e (noA e d), d, r⟩
    have hKb : K.In (hidT s₁.heap H) := fun b o e => base_of (KX b o e) (by
      cases q : H b with
      | none => rfl
      | some u =>
        have e' : b = a := hA b (by rw [q]; simp)
        subst e'
        rw [hK (by rw [q]; simp)] at e; cases e)
    have hM : Mod K mg (hidT s₁.heap H) := ⟨hKb, nsK hns, ⟨mb, nsK hb, hbb⟩, let ⟨mc, h1, h2⟩ := hlim; ⟨mc, nsK h1, h2⟩⟩
    have e0 : Env0 P w K mg (hidT s₁.heap H) callerA [] s₁ H := ⟨rfl, hM, fun b o e => of_hidT e, Nat.le_of_eq (hidT_size _ _), trivial, fun b hb => absurd (show b ∈ ([] : List Addr) from hb) (by simp), hok, .of_eq hg⟩
    refine codeAny_mono ((F _ hKb (nsK hns)).run callerA [] s₁ H ⟨[.ref a], []⟩ [.ref a] [.ref a] _ _ hr e0 (hbind s₁ (.ref a)) (.cons rfl .nil) (hsp H hO hS)) fun r s' h => ?_
    cases r with
    | error e => exact (hCX H e s' h).elim
    | ok fl =>
      cases fl with
      | next => exact False.elim h
      | brk => exact False.elim h
      | cont => exact False.elim h
      | ret u =>
        obtain ⟨v, H', os, bare, un, hok', r', q⟩ := h
        have q' : v = .bl true := q
        subst q'
        obtain rfl : u = Value.bool true := r'
        refine ⟨rfl, OldK.of_keep fun b o e => ?_, os, bare⟩
        cases q : H b with
        | none => exact un.keep b o e q (by intro z; exact absurd (show b ∈ ([] : List Addr) from z) (by simp)) (by simp)
        | some u =>
          rcases hO b with z | ⟨ob, xs, z⟩
          · rw [q] at z; cases z
          · have z2 := un.frzs b ob _ z
            obtain ⟨e1, _⟩ := hok b _ z
            obtain ⟨e2, _⟩ := hok' b _ z2
            rw [e] at e1; cases e1
            exact e2
  cases hk : K.lookup a with
  | some o =>
    -- the script is one of the module's own objects
    have e := KX a o hk
    rw [ha] at e
    cases e
    refine core (fun _ => none) (fun _ => .inl rfl) (.inr ⟨_, vs.toArray, _, hk, rfl, rfl, rfl, by rw [List.size_toArray, lenV]; exact hl, by simpa using rv⟩) (fun b u z => by have z' : (none : Option HO) = some u := z; cases z') (fun b z => absurd rfl z) fun z => absurd rfl z
  | none =>
    refine core (fun b => if b = a then some (.frz { cls := .type "list", data := .seq vs.toArray } (.lst (ns.map V.int))) else none) (fun b => ?_) (.inl (.inr ⟨{ cls := .type "list", data := .seq vs.toArray }, if_pos rfl⟩)) (fun b u z => ?_) (fun b z => ?_) fun _ => hk
    · by_cases hb : b = a
      · exact .inr ⟨_, _, if_pos hb⟩
      · exact .inl (if_neg hb)
    · by_cases hb : b = a
      · have z' := (if_pos hb).symm.trans z
        cases z'
        subst hb
        exact ⟨ha, by rw [List.length_map]; exact hl, vs, _, rv, ha⟩
      · have z' := (if_neg hb).symm.trans z
        cases z'
    · by_cases hb : b = a
      · exact hb
      · exact absurd (if_neg hb) z
end L2
namespace L2
open PySem PySem.Spec PyProof.Rows
theorem walk_of {l : PySem.W.OpenLaw} {n k : Nat} {q : Program} {loose : List Str} {XP : (Str → Option Value) → Heap → Prop} {YP : World → Heap → Prop} {d : DefRec} {K : Params → PySem.W.Frag} {CX : World → CXT} {sp : World → Sp} {x : Str}
    (hn : l.most = some n) (hn2 : n ≤ sizeLine) (hdf : d.params.defaults = []) (hr : Room k callerA)
    (hY : ∀ (w : World) (h : Heap), YP w h → (K w.params).In h)
    (F : ∀ (w : World) (mg : Str → Option Value) (fa : Addr) (h : Heap), (K w.params).In h → h.Ns mainGlobals mg → mg d.name = some (.ref fa) →
      ∃ fd : FuncData, (∀ (s : Shared) (u : Value), BindsTo s fd ⟨[u], []⟩ [(x, u)]) ∧
        ∀ base : Heap, (K w.params).In base → base.Ns mainGlobals mg → FnOk l.prog w (K w.params) mg base (CX w) k fa fd [x] (sp w))
    (hsp : ∀ (w : World) (H : Hp) (a : Addr) (ns : List Int), ns.length ≤ n → Only H → SqL (K w.params) H a (ns.map V.int) → sp w [.ref a] H (fun v _ => v = .bl true) fun _ _ _ => False)
    (hCX : ∀ (w : World) (H : Hp) (s : Shared) (e : Value) (s' : Shared), CX w [] H s (fun _ _ _ => False) e s' → False) :
    PySem.W.WalkO q loose XP YP l.row.toRowW d [] (fun f vs => PySem.call f vs) := by
  refine Att.attach_call hn hdf fun w s₀ s₁ mg mb fa o pm cd doc a vs ns G Y ho hd hcd hmg hobj hints hlen hg => ?_
  have KX := hY w _ Y
  obtain ⟨fd, hb, hF⟩ := F w mg fa _ KX G.T.g hmg
  exact law_call KX G.T.g G.T.b G.T.builtins G.T.nolimit hg hobj hints (Nat.le_trans hlen hn2) hr hF hb (fun H hO hS => hsp w H a ns hlen hO hS) fun H e s' => hCX w H s₁ e s'
end L2
namespace L2
open PySem PySem.Spec PyProof.Rows
def defArgs (s : Stmt) : Arguments := match s with
  | .FunctionDef _ a _ _ _ _ _ _ _ _ => a
  | _ => { posonlyargs := [], args := [], vararg := none, kwonlyargs := [], kw_defaults := [], kwarg := none, defaults := [] }
def defBody (s : Stmt) : List Stmt := match s with
  | .FunctionDef _ _ b _ _ _ _ _ _ _ => b
  | _ => []
def defScope (s : Stmt) : Scope := match s with
  | .FunctionDef _ _ _ _ _ _ sc _ _ _ => sc
  | _ => { kind := .function, names := [], isGenerator := false, isCoroutine := false }
abbrev CX0 : CXT := fun _ _ _ _ _ _ => False
abbrev E0 : XK := fun _ _ _ => False
theorem pass0 {X : Cx} : Passes CX0 X E0 := fun _ _ _ _ _ _ _ h => h.elim
structure Fun (K : PySem.W.Frag) (x qual : Str) (st : Stmt) (f : Addr) (fd : FuncData) : Prop where
  ex : ∃ (oc : Value) (od : Option Addr) (kV doc pm : Value) (an : Option Addr) (cdv ct : Value) (osl : Array (Option Value)),
    fd = PySem.W.fnOf x qual (defArgs st) (defBody st) (defScope st) .none kV doc pm an cdv ct ∧ K.lookup f = some ⟨oc, od, .func fd, osl⟩ ∧ PySem.W.codeIn K cdv qual = true
  kp : PySem.W.keepIn K (.ref f) = true
section
variable {P : Program} {w : World} {K : PySem.W.Frag} {mg : Str → Option Value} {base : Heap}
theorem Fun.ok {x qual : Str} {st : Stmt} {f : Addr} {fd : FuncData} {N ps : List Str} {k : Nat} {sp : Sp} (F : Fun K x qual st f fd) (S : FnScope N ps (defScope st)) (len : ∀ vs H Q E, sp vs H Q E → vs.length = ps.length)
    (hbody : ∀ (cdv : Value) (A : Around) (outer : List Env) (s : Shared) (H : Hp) (vs : List V) (Q : VK) (E : XK), Room k (A.deeper (envOfC qual (defScope st) s.heap.objs.size f cdv)) → sp vs H Q E →
      ∃ t, PSs (cxOf CX0 P w K mg base N qual (defScope st) f cdv A outer s H E).nox (defBody st) t ∧ t { nx := fun _ H' => Q .non H', rt := Q } (start N vs) H) : FnOk P w K mg base CX0 (k + 1) f fd ps sp := by
  obtain ⟨oc, od, kV, doc, pm, an, cdv, ct, osl, rfl, lk, hcd⟩ := F.ex
  refine fn_of lk hcd S len fun A outer s H vs Q E hr hsp => ?_
  obtain ⟨t, h, q⟩ := hbody cdv A outer s H vs Q E hr hsp
  exact ⟨t, h.nox, q⟩
theorem Fun.binds {x qual : Str} {st : Stmt} {f : Addr} {fd : FuncData} {ps : List Str} (F : Fun K x qual st f fd)
    (h : ∀ (kV doc pm : Value) (an : Option Addr) (cdv ct : Value) (us : List Value), us.length = ps.length → bindArgs (PySem.W.fnOf x qual (defArgs st) (defBody st) (defScope st) .none kV doc pm an cdv ct) ⟨us, []⟩ = pure (ps.zip us)) : Binds K fd ps [] := by
  obtain ⟨oc, od, kV, doc, pm, an, cdv, ct, osl, rfl, lk, hcd⟩ := F.ex
  exact .all (h kV doc pm an cdv ct)
theorem fun_mk {x qual : Str} {st : Stmt} {f : Addr} {oc : Value} {od an : Option Addr} {osl : Array (Option Value)} {kV doc pm cdv ct : Value} (l : K.lookup f = some ⟨oc, od, .func (PySem.W.fnOf x qual (defArgs st) (defBody st) (defScope st) .none kV doc pm an cdv ct), osl⟩)
    (c : PySem.W.codeIn K cdv qual = true) (k : PySem.W.keepIn K (.ref f) = true) : Fun K x qual st f (PySem.W.fnOf x qual (defArgs st) (defBody st) (defScope st) .none kV doc pm an cdv ct) := ⟨⟨oc, od, kV, doc, pm, an, cdv, ct, osl, rfl, l, c⟩, k⟩
end
theorem small1000 {n : Nat} (h : n ≤ 1000) : n < sizeLine := Nat.lt_of_le_of_lt h (by decide)
section
variable {X : Cx}
theorem pv (i : Nat) {x : Str} {pos : Pos} (hN : X.N[i]? = some x := by rfl) (hv : Vis X.env.scope x := by first | exact Or.inl rfl | exact Or.inr (Or.inl rfl) | exact Or.inr (Or.inr rfl)) (hd : (x == ("__debug__" : Str)) = false := by decide)
    (hcd : (x == ("__classdict__" : Str)) = false := by decide) : PE X (.Name x pos) (tVar i) := pe_var hN hv hd hcd
end
theorem ite2 {c A B : Prop} [Decidable c] (h1 : c → A) (h2 : ¬ c → B) : if c then A else B := by
  by_cases h : c
  · rw [if_pos h]
    exact h1 h
  · rw [if_neg h]
    exact h2 h
def Same (H H' : Hp) : Prop := ∀ b o, H b = some o → H' b = some o
theorem Same.refl (H : Hp) : Same H H := fun _ _ h => h
theorem Same.trans {H H1 H2 : Hp} (a : Same H H1) (b : Same H1 H2) : Same H H2 := fun c o h => b c o (a c o h)
theorem Same.free {H H' : Hp} (e : Same H H') {l : Addr} (h : H' l = Option.none) : H l = Option.none := by
  cases q : H l with
  | none => rfl
  | some o =>
    rw [e l o q] at h
    cases h
theorem Same.seq {K : PySem.W.Frag} {H H' : Hp} {a : Addr} {xs : List V} (e : Same H H') (h : SqL K H a xs) : SqL K H' a xs := by
  rcases h with (h | ⟨o, h⟩) | h
  · exact .inl (.inl (e _ _ h))
  · exact .inl (.inr ⟨o, e _ _ h⟩)
  · exact .inr h
end L2
namespace L2
open PySem PySem.Spec PyProof.Rows
section
variable {X : Cx}
end
end L2
namespace L2
open PySem PySem.Spec PyProof.Rows
section
variable {κ : Type} [DecidableEq κ]
end
end L2
set_option Elab.async false
set_option linter.all false
set_option maxRecDepth 100000
namespace L2
open PySem PySem.Spec PyProof.Rows
section
variable {σ : St} {H : Hp} {Q : VK} {D : Ends}
theorem w_var {i : Nat} : tVar i σ H Q = ∃ v, σ[i]? = some (some v) ∧ Q v H := rfl
theorem w_C {v : V} : tC v σ H Q = Q v H := rfl
theorem w_op {r : R2} {ta tb : TE} : tOp r ta tb σ H Q = ta σ H fun x H1 => tb σ H1 fun y H2 => r x y H2 Q := rfl
theorem w_un {r : V → Hp → VK → Prop} {ta : TE} : tUn r ta σ H Q = ta σ H fun x H1 => r x H1 Q := rfl
theorem w_rI {C : Int → Int → Prop} {g : Int → Int → V} {i j : Int} : rI C g (.int i) (.int j) H Q = (C i j ∧ Q (g i j) H) :=
  propext ⟨fun ⟨a, b, e1, e2, c, q⟩ => by cases e1; cases e2; exact ⟨c, q⟩, fun ⟨c, q⟩ => ⟨i, j, rfl, rfl, c, q⟩⟩
theorem w_rI0 {g : Int → Int → V} {i j : Int} : rI0 g (.int i) (.int j) H Q = Q (g i j) H :=
  propext ⟨fun ⟨a, b, e1, e2, q⟩ => by cases e1; cases e2; exact q, fun q => ⟨i, j, rfl, rfl, q⟩⟩
theorem w_rU {g : Int → V} {i : Int} : rU g (.int i) H Q = Q (g i) H :=
  propext ⟨fun ⟨a, e1, q⟩ => by cases e1; exact q, fun q => ⟨i, rfl, q⟩⟩
theorem w_eqI {i j : Int} : rEq (.int i) (.int j) H Q = Q (.bl (decide (i = j))) H :=
  propext (by
    have e : decide (V.int i = V.int j) = decide (i = j) := by by_cases h : i = j <;> simp [h]
    unfold rEq; rw [e]; exact ⟨fun h => h.2, fun h => ⟨rfl, h⟩⟩)
theorem w_neI {i j : Int} : rNe (.int i) (.int j) H Q = Q (.bl (!decide (i = j))) H :=
  propext (by
    have e : decide (V.int i = V.int j) = decide (i = j) := by by_cases h : i = j <;> simp [h]
    unfold rNe; rw [e]; exact ⟨fun h => h.2, fun h => ⟨rfl, h⟩⟩)
theorem w_seq {t u : TS} : tSeq t u D σ H = t { D with nx := u D } σ H := rfl
theorem w_next : tNext D σ H = D.nx σ H := rfl
theorem w_break : tBreak D σ H = D.bk σ H := rfl
theorem w_cont : tCont D σ H = D.ct σ H := rfl
theorem w_ifS {c : TT} {t u : TS} : tIfS c t u D σ H = c σ H fun b H1 => if b = true then t D σ H1 else u D σ H1 := rfl
theorem w_ret {te : TE} : tRet te D σ H = te σ H D.rt := rfl
theorem w_retN : tRetN D σ H = D.rt .non H := rfl
theorem w_drop {te : TE} : tDrop te D σ H = te σ H fun _ H1 => D.nx σ H1 := rfl
theorem w_asg {te : TE} {g : TG} : tAsg te g D σ H = te σ H fun x H1 => g x σ H1 D.nx := rfl
theorem w_gName {i : Nat} {v : V} {R : St → Hp → Prop} : gName i v σ H R = R (σ.set i (some v)) H := rfl
theorem w_gSub {to ti : TE} {t : TSet} {v : V} {R : St → Hp → Prop} : gSub to ti t v σ H R = to σ H fun o H1 => ti σ H1 fun i H2 => t o i v H2 fun H3 => R σ H3 := rfl
theorem w_test {t : TE} {R : Bool → Hp → Prop} : tTest t σ H R = t σ H fun x H' => ∃ k, x = .bl k ∧ R k H' := rfl
theorem w_B {t : TE} {R : Bool → Hp → Prop} : tB t σ H R = t σ H fun x H' => ∃ k, x = .bl k ∧ R k H' := rfl
theorem w_and {t u : TT} {R : Bool → Hp → Prop} : tAnd t u σ H R = t σ H fun c H1 => if c = true then u σ H1 R else R false H1 := rfl
theorem w_or {t u : TT} {R : Bool → Hp → Prop} : tOr t u σ H R = t σ H fun c H1 => if c = true then R true H1 else u σ H1 R := rfl
theorem w_not {t : TT} {R : Bool → Hp → Prop} : tNot t σ H R = t σ H fun c H1 => R (!c) H1 := rfl
theorem w_andV {ta tb : TE} : tAndV ta tb σ H Q = ta σ H fun x H1 => ∃ c, x = .bl c ∧ if c = true then tb σ H1 Q else Q (.bl false) H1 := rfl
theorem w_orV {ta tb : TE} : tOrV ta tb σ H Q = ta σ H fun x H1 => ∃ c, x = .bl c ∧ if c = true then Q (.bl true) H1 else tb σ H1 Q := rfl
theorem w_notV {ta : TE} : tNotV ta σ H Q = ta σ H fun x H1 => ∃ c, x = .bl c ∧ Q (.bl (!c)) H1 := rfl
theorem w_if {t : TT} {ta tb : TE} : tIf t ta tb σ H Q = t σ H fun c H1 => if c = true then ta σ H1 Q else tb σ H1 Q := rfl
theorem w_call {sp : Sp} {dvs : List V} {E : XK} {t : TA} : tCall sp dvs E t σ H Q = t σ H fun vs H1 => sp (vs ++ dvs) H1 Q E := rfl
theorem w_nil {R : List V → Hp → Prop} : tNil σ H R = R [] H := rfl
theorem w_cons {ta : TE} {tr : TA} {R : List V → Hp → Prop} : tCons ta tr σ H R = ta σ H fun x H1 => tr σ H1 fun xs H2 => R (x :: xs) H2 := rfl
theorem w_CB {r : List V → Hp → VK → Prop} {t : TA} : tCB r t σ H Q = t σ H fun vs H1 => r vs H1 Q := rfl
theorem w_lst {t : TA} : tLst t σ H Q = t σ H fun xs H1 => xs.length ≤ sizeLine ∧ ∀ p, H1 p = none → Q (.ref p) (upd H1 p (.lst xs)) := rfl
theorem w_tup {t : TA} : tTup t σ H Q = t σ H fun xs H1 => xs.length ≤ sizeLine ∧ ∀ p, H1 p = none → Q (.ref p) (upd H1 p (.tup xs)) := rfl
theorem w_isN {ta : TE} : tIsN ta σ H Q = ta σ H fun x H1 => Q (.bl (decide (x = .non))) H1 := rfl
theorem w_notN {ta : TE} : tNotN ta σ H Q = ta σ H fun x H1 => Q (.bl (!decide (x = .non))) H1 := rfl
theorem w_chain {r r' : R2} {ta tb tc : TE} : tChain r r' ta tb tc σ H Q = (ta σ H fun x H1 => tb σ H1 fun y H2 => r x y H2 fun z H3 => ∃ k, z = .bl k ∧
  if k = true then tc σ H3 fun w H4 => r' y w H4 Q else Q (.bl false) H3) := by first | rfl | (unfold tChain; rfl)
end
section
variable {X : Cx} {st : Stmt} {rest : List Stmt} {t u : TS}
def tMid (t u : TS) : TS := fun D σ H => ∃ mid : St → Hp → Prop, t { D with nx := mid } σ H ∧ ∀ σ' H', mid σ' H' → u D σ' H'
theorem pss_mid (h1 : PS X st t) (h2 : PSs X rest u) : PSs X (st :: rest) (tMid t u) := by
  intro pins s σ H D I h
  obtain ⟨mid, q, k⟩ := h
  refine wpAny_execs_cons (thn (h1 pins s σ H { D with nx := mid } I q) fun f s1 q => ?_)
  cases f with
  | next =>
    obtain ⟨σ', H', I', q⟩ := q
    exact h2 pins s1 σ' H' D I' (k _ _ q)
  | ret v => exact q
  | brk => exact q
  | cont => exact q
end
structure Cal (P : Program) (w : World) (K : PySem.W.Frag) (mg : Str → Option Value) (base : Heap) (k : Nat) (x : Str) (ps : List Str) (sp : Sp) : Prop where
  ex : ∃ (f : Addr) (fd : FuncData), FnOk P w K mg base CX0 k f fd ps sp ∧ mg x = some (.ref f) ∧ PySem.W.keepIn K (.ref f) = true ∧ Binds K fd ps []
theorem Cal.mono {P : Program} {w : World} {K : PySem.W.Frag} {mg : Str → Option Value} {base : Heap} {j k : Nat} {x : Str} {ps : List Str} {sp : Sp} (C : Cal P w K mg base j x ps sp) (h : j ≤ k) : Cal P w K mg base k x ps sp := by
  obtain ⟨f, fd, a, b, c, d⟩ := C.ex
  exact ⟨f, fd, a.mono h, b, c, d⟩
theorem Cal.imp {P : Program} {w : World} {K : PySem.W.Frag} {mg : Str → Option Value} {base : Heap} {k : Nat} {x : Str} {ps : List Str} {sp sp' : Sp} (C : Cal P w K mg base k x ps sp) (h : ∀ vs H Q E, sp' vs H Q E → sp vs H Q E) : Cal P w K mg base k x ps sp' := by
  obtain ⟨f, fd, a, b, c, d⟩ := C.ex
  exact ⟨f, fd, a.imp h, b, c, d⟩
section
variable {X : Cx} {k : Nat} {x : Str} {ps : List Str} {sp : Sp} {e : Expr} {es : List Expr} {t : TA} {p pos : Pos}
theorem pe_cal (C : Cal X.prog X.w X.K X.mg X.base k x ps sp) (hr : Room k X.A) (hg : Gl X x) (ha : PA X (e :: es) t) (hd : (x == ("__debug__" : Str)) = false := by decide)
    (he : starEach (e :: es) X.env = (false, eval e X.env) :: starEach es X.env := by rfl) (hpl : (backTo pos (starEach es X.env)).any (·.1) = false := by rfl) : PE X (.Call (.Name x p) (e :: es) [] pos) (tCall sp [] E0 t) := by
  obtain ⟨f, fd, a, b, c, d⟩ := C.ex
  exact pe_call a hr hg b c d .nil pass0 ha hd he hpl
end
theorem bits_le {i : Int} {n : Nat} (h : i.natAbs < 2 ^ n) : Builtin.Int.intBits i ≤ n := by
  unfold Builtin.Int.intBits
  split
  · exact Nat.zero_le _
  · rename_i h0
    have hp : i.natAbs ≠ 0 := by
      intro z
      exact h0 (by simpa using z)
    have : i.natAbs.log2 < n := (Nat.log2_lt hp).mpr h
    omega
def CShl (i j : Int) : Prop := 0 ≤ j ∧ j ≤ 1000000 ∧ Builtin.Int.intBits i ≤ 1000000
def CDivB (i j : Int) : Prop := 0 < j ∧ j.natAbs.log2 < 9000
section
variable {X : Cx}
theorem op_shlB : OpR X (binaryOp .LShift) (rI CShl fun i j => .int (i * 2 ^ j.toNat)) := opI fun i j _ _ _ _ _ hc q => lshift_int hc.1 (by have h1 := hc.2.1; have h2 := hc.2.2; omega) q
theorem op_mulB : OpR X (binaryOp .Mult) (rI IntMulOk fun i j => .int (i * j)) := opI fun _ _ _ _ _ _ _ hc q => mul_int q hc
theorem op_fdivB : OpR X (binaryOp .FloorDiv) (rI CDivB fun i j => .int (i / j)) := opI fun i j _ _ _ _ _ hc q => by
  have e : i / j = i.fdiv j := (Int.fdiv_eq_ediv_of_nonneg i (Int.le_of_lt hc.1)).symm
  rw [e] at q
  exact floordiv_int (by have := hc.1; omega) q (.inl (PyProof.noPylong_of_log2 hc.2))
def rIsI (K : PySem.W.Frag) : List V → Hp → VK → Prop := fun xs H Q => ∃ x T t b, xs = [x, .ty T] ∧ TyOf K H x t ∧ PySem.W.kitOne K t (.type T) = some b ∧ Q (.bl b) H
theorem call_isI : CallR X (.builtin "isinstance") (rIsI X.K) := by
  intro pins s σ H xs us Q I r h
  obtain ⟨x, T, t, b, rfl, ty, e, q⟩ := h
  obtain ⟨u1, u2, rfl, r1, r2⟩ := Vals.two r
  cases r2
  exact isinst_ok I r1 ty e fun tk => ⟨.bl b, H, I.tok _, rfl, q⟩
end
theorem mul_l {i j : Int} (h1 : -(2 ^ 64) < i) (h2 : i < 2 ^ 64) : IntMulOk i j := .of_left (intBits_le_64 h1 h2)
theorem mul_r {i j : Int} (h1 : -(2 ^ 64) < j) (h2 : j < 2 ^ 64) : IntMulOk i j := .of_right (intBits_le_64 h1 h2)
theorem kit_same {K : PySem.W.Frag} (T : String) : PySem.W.kitOne K (.type T) (.type T) = some true := by unfold PySem.W.kitOne; rw [if_pos (by simp)]
theorem kit_int_bool {K : PySem.W.Frag} : PySem.W.kitOne K (.type "int") (.type "bool") = some false := by first | rfl | decide +kernel | (unfold PySem.W.kitOne PySem.W.kitCls; decide +kernel)
theorem kit_bool_int {K : PySem.W.Frag} : PySem.W.kitOne K (.type "bool") (.type "int") = some true := by first | rfl | decide +kernel
theorem kit_non_int {K : PySem.W.Frag} : PySem.W.kitOne K (.type "NoneType") (.type "int") = some false := by first | rfl | decide +kernel
theorem kit_str_int {K : PySem.W.Frag} : PySem.W.kitOne K (.type "str") (.type "int") = some false := by first | rfl | decide +kernel
end L2
set_option Elab.async false
set_option linter.all false
set_option maxRecDepth 100000
namespace L2
open PySem PySem.Spec PyProof.Rows
theorem bo_len : bootBuiltins "len" = some (.builtin "len") := by decide +kernel
theorem bo_abs : bootBuiltins "abs" = some (.builtin "abs") := by decide +kernel
theorem bo_min : bootBuiltins "min" = some (.builtin "min") := by decide +kernel
theorem bo_max : bootBuiltins "max" = some (.builtin "max") := by decide +kernel
theorem bo_all : bootBuiltins "all" = some (.builtin "all") := by decide +kernel
theorem bo_any : bootBuiltins "any" = some (.builtin "any") := by decide +kernel
theorem bo_sorted : bootBuiltins "sorted" = some (.builtin "sorted") := by decide +kernel
theorem bo_isinstance : bootBuiltins "isinstance" = some (.builtin "isinstance") := by decide +kernel
theorem bo_int : bootBuiltins "int" = some (.type "int") := by decide +kernel
theorem bo_bool : bootBuiltins "bool" = some (.type "bool") := by decide +kernel
theorem bo_list : bootBuiltins "list" = some (.type "list") := by decide +kernel
theorem bo_set : bootBuiltins "set" = some (.type "set") := by decide +kernel
theorem bo_zip : bootBuiltins "zip" = some (.type "zip") := by decide +kernel
def CPowB (i j : Int) : Prop := 0 ≤ j ∧ j ≤ 1000000 ∧ -(2 ^ 64) < i ∧ i < 2 ^ 64
section
variable {X : Cx}
theorem op_powB : OpR X (binaryOp .Pow) (rI CPowB fun i j => .int (i ^ j.toNat)) := opI fun i j _ _ _ _ _ hc q => pow_int_small hc.1 hc.2.1 (by have h1 := hc.2.2.1; have h2 := hc.2.2.2; omega) q
end
theorem w_shl1 {j : Int} : CShl 1 j = (0 ≤ j ∧ j ≤ 1000000) := propext ⟨fun h => ⟨h.1, h.2.1⟩, fun h => ⟨h.1, h.2, Nat.le_trans (bits_le (n := 1) (by decide)) (by decide)⟩⟩
theorem divB {i j : Int} (h : 0 < j) (h2 : j < 2 ^ 64) : CDivB i j := ⟨h, by
  have e : j.natAbs < 2 ^ 64 := by omega
  have e2 : j.natAbs ≠ 0 := by omega
  have := (Nat.log2_lt e2).mpr e
  omega⟩
section
variable {P : Program} {w : World} {K : PySem.W.Frag} {mg : Str → Option Value} {base : Heap}
theorem mkCal {x qual : Str} {st : Stmt} {N ps : List Str} {k : Nat} {sp : Sp} (T : ∃ (f : Addr) (fd : FuncData), Fun K x qual st f fd ∧ mg x = some (.ref f) ∧ Binds K fd ps []) (S : FnScope N ps (defScope st)) (len : ∀ vs H Q E, sp vs H Q E → vs.length = ps.length)
    (hbody : ∀ (f : Addr) (cdv : Value) (A : Around) (outer : List Env) (s : Shared) (H : Hp) (vs : List V) (Q : VK) (E : XK), Room k (A.deeper (envOfC qual (defScope st) s.heap.objs.size f cdv)) → sp vs H Q E →
      ∃ t, PSs (cxOf CX0 P w K mg base N qual (defScope st) f cdv A outer s H E).nox (defBody st) t ∧ t { nx := fun _ H' => Q .non H', rt := Q } (start N vs) H) : Cal P w K mg base (k + 1) x ps sp := by
  obtain ⟨f, fd, F, m, b⟩ := T
  exact ⟨f, fd, F.ok S len fun cdv A outer s H vs Q E hr h => hbody f cdv A outer s H vs Q E hr h, m, F.kp, b⟩
end
def Chg (p : Addr) (H H' : Hp) : Prop := ∀ b o, b ≠ p → H b = some o → H' b = some o
theorem Chg.refl {p : Addr} {H : Hp} : Chg p H H := fun _ _ _ h => h
theorem Chg.trans {p : Addr} {H H1 H2 : Hp} (a : Chg p H H1) (b : Chg p H1 H2) : Chg p H H2 := fun c o n h => b c o n (a c o n h)
theorem Same.chg {p : Addr} {H H' : Hp} (h : Same H H') : Chg p H H' := fun b o _ q => h b o q
theorem Chg.upd {p : Addr} {H : Hp} (o : HO) : Chg p H (upd H p o) := fun b u n q => by rw [upd_ne n]; exact q
theorem same_new {H : Hp} {p : Addr} (h : H p = none) (o : HO) : Same H (upd H p o) := fun b u q => by rw [upd_ne (ne_of_none q h)]; exact q
def Scr (K : PySem.W.Frag) (H : Hp) (a : Addr) (ns : List Int) : Prop :=
  (∃ o, H a = some (.frz o (.lst (ns.map V.int)))) ∨ (∃ (o : Obj) (its : Array Value) (n : Nat), K.lookup a = some o ∧ o.cls = .type "list" ∧ o.dict = none ∧ o.data = .seq its n ∧ its.size ≤ sizeLine ∧ Vals (ns.map V.int) its.toList)
section
variable {K : PySem.W.Frag} {H H' : Hp} {a p : Addr} {ns : List Int}
theorem Scr.sq (h : Scr K H a ns) : SqL K H a (ns.map V.int) := by
  rcases h with h | h
  · exact .inl (.inr h)
  · exact .inr h
theorem scr_of (hO : Only H) (hS : SqL K H a (ns.map V.int)) : Scr K H a ns := by
  rcases hS with (h | h) | h
  · rcases hO a with z | ⟨o, xs, z⟩
    · rw [z] at h; cases h
    · rw [z] at h; cases h
  · exact .inl h
  · exact .inr h
theorem Scr.same (h : Scr K H a ns) (s : Same H H') : Scr K H' a ns := by
  rcases h with ⟨o, h⟩ | h
  · exact .inl ⟨o, s _ _ h⟩
  · exact .inr h
end
def spLaw (K : PySem.W.Frag) : Sp := fun vs H Q _ => ∃ (a : Addr) (ns : List Int), vs = [.ref a] ∧ Scr K H a ns ∧ ns.length ≤ 63 ∧ ∀ H', Q (.bl true) H'
theorem atI_int {ns : List Int} {i : Int} (h0 : 0 ≤ i) (h1 : i < (ns.length : Int)) : ∃ v : Int, atI (ns.map V.int) i = some (.int v) ∧ ns[i.toNat]? = some v := by
  have hk : i.toNat < ns.length := by omega
  have e : i = ((i.toNat : Nat) : Int) := by omega
  have q : atI (ns.map V.int) ((i.toNat : Nat) : Int) = some (.int ns[i.toNat]) := atI_nat (by rw [List.getElem?_map, List.getElem?_eq_getElem hk] <;> rfl)
  rw [← e] at q
  exact ⟨ns[i.toNat], q, List.getElem?_eq_getElem hk⟩
def Feed (H : Hp) (p : Addr) (c : Int) : Prop := ∃ g m st : Int, H p = some (.lst [.int g, .int m, .int st]) ∧ 0 ≤ g ∧ 0 ≤ m ∧ m < 2147483423 ∧ 0 ≤ st ∧ st ≤ c
theorem Feed.mono {H : Hp} {p : Addr} {c d : Int} (h : Feed H p c) (l : c ≤ d) : Feed H p d := by
  obtain ⟨g, m, st, a, b, c, d, e, f⟩ := h
  exact ⟨g, m, st, a, b, c, d, e, by omega⟩
theorem Feed.same {H H' : Hp} {p : Addr} {c : Int} (h : Feed H p c) (s : Same H H') : Feed H' p c := by
  obtain ⟨g, m, st, a, r⟩ := h
  exact ⟨g, m, st, s _ _ a, r⟩
theorem Feed.lst {H : Hp} {p : Addr} {c : Int} (h : Feed H p c) : ∃ xs, H p = some (.lst xs) := by
  obtain ⟨g, m, st, a, r⟩ := h
  exact ⟨_, a⟩
def spFeed (K : PySem.W.Frag) : Sp := fun vs H Q _ => ∃ (a : Addr) (ns : List Int) (k : Int), vs = [.ref a, .int k] ∧ Scr K H a ns ∧ ns.length ≤ 63 ∧ 0 ≤ k ∧ k ≤ 1000 ∧
  ∀ p H', H p = none → Same H H' → Feed H' p 0 → Q (.ref p) H'
def lim : Nat → Int
  | 0 => 11
  | n + 1 => 1000000 * (lim n - 1)
def spTakeN (n : Nat) : Sp := fun vs H Q _ => ∃ (p : Addr) (m c : Int), vs = [.ref p, .int m] ∧ Feed H p c ∧ c ≤ 1000000000 - 2 ^ n ∧ 0 < n ∧ n ≤ 10 ∧ 1 ≤ m ∧ m ≤ lim n ∧
  ∀ (r : Int) H', 0 ≤ r → r < m → Feed H' p (c + 2 ^ n) → Chg p H H' → Q (.int r) H'
def spTake : Sp := fun vs H Q _ => ∃ (p : Addr) (m c : Int), vs = [.ref p, .int m] ∧ Feed H p c ∧ c ≤ 900000000 ∧ 1 ≤ m ∧ m ≤ 10 ^ 60 ∧
  ∀ (r : Int) H', 0 ≤ r → r < m → Feed H' p (c + 1024) → Chg p H H' → Q (.int r) H'
def rIxM : R2 := fun x y H Q => ∃ p xs i v, x = .ref p ∧ y = .int i ∧ H p = some (.lst xs) ∧ atI xs i = some v ∧ Q v H
def rIxU : R2 := fun x y H Q => ∃ p xs i v, x = .ref p ∧ y = .int i ∧ H p = some (.tup xs) ∧ atI xs i = some v ∧ Q v H
section
variable {X : Cx}
theorem IxR.mono {r r' : R2} (h : IxR X r) (m : ∀ x y H Q, r' x y H Q → r x y H Q) : IxR X r' := fun va sl pins s σ H x y v u Q I rx ry q hs => h va sl pins s σ H x y v u Q I rx ry (m _ _ _ _ q) hs
theorem ix_M : IxR X rIxM := ix_list.mono fun x y H Q ⟨p, xs, i, v, e1, e2, h, a, q⟩ => ⟨p, xs, i, v, e1, e2, SqL.of h, a, q⟩
theorem ix_U : IxR X rIxU := ix_tup.mono fun x y H Q ⟨p, xs, i, v, e1, e2, h, a, q⟩ => ⟨p, xs, i, v, e1, e2, SqT.of h, a, q⟩
theorem CallR.mono {f : Value} {r r' : List V → Hp → VK → Prop} (h : CallR X f r) (m : ∀ xs H Q, r' xs H Q → r xs H Q) : CallR X f r' := fun pins s σ H xs us Q I rx q => h pins s σ H xs us Q I rx (m _ _ _ q)
theorem call_lenM : CallR X (.builtin "len") (fun xs H Q => ∃ p ys, xs = [.ref p] ∧ H p = some (.lst ys) ∧ Q (.int ys.length) H) := call_len_seq.mono fun xs H Q ⟨p, ys, e, h, q⟩ => ⟨p, ys, e, .inl (SqL.of h), q⟩
theorem call_lenS : CallR X (.builtin "len") (fun xs H Q => ∃ p ys, xs = [.ref p] ∧ SqL X.K H p ys ∧ Q (.int ys.length) H) := call_len_seq.mono fun xs H Q ⟨p, ys, e, h, q⟩ => ⟨p, ys, e, .inl h, q⟩
end
section
variable {H : Hp} {Q : VK}
theorem w_ixM {p : Addr} {i : Int} : rIxM (.ref p) (.int i) H Q = ∃ xs, H p = some (.lst xs) ∧ ∃ v, atI xs i = some v ∧ Q v H :=
  propext ⟨fun ⟨p', xs, i', v, e1, e2, h, a, q⟩ => by cases e1; cases e2; exact ⟨xs, h, v, a, q⟩, fun ⟨xs, h, v, a, q⟩ => ⟨p, xs, i, v, rfl, rfl, h, a, q⟩⟩
theorem w_ixU {p : Addr} {i : Int} : rIxU (.ref p) (.int i) H Q = ∃ xs, H p = some (.tup xs) ∧ ∃ v, atI xs i = some v ∧ Q v H :=
  propext ⟨fun ⟨p', xs, i', v, e1, e2, h, a, q⟩ => by cases e1; cases e2; exact ⟨xs, h, v, a, q⟩, fun ⟨xs, h, v, a, q⟩ => ⟨p, xs, i, v, rfl, rfl, h, a, q⟩⟩
theorem w_ixL {K : PySem.W.Frag} {p : Addr} {i : Int} : rIxL K (.ref p) (.int i) H Q = ∃ xs, SqL K H p xs ∧ ∃ v, atI xs i = some v ∧ Q v H :=
  propext ⟨fun ⟨p', xs, i', v, e1, e2, h, a, q⟩ => by cases e1; cases e2; exact ⟨xs, h, v, a, q⟩, fun ⟨xs, h, v, a, q⟩ => ⟨p, xs, i, v, rfl, rfl, h, a, q⟩⟩
theorem w_setL {p : Addr} {k : Int} {v : V} {R : Hp → Prop} : rSetL (.ref p) (.int k) v H R = ∃ xs, H p = some (.lst xs) ∧ ∃ j, ixN xs.length k = some j ∧ R (upd H p (.lst (xs.set j v))) :=
  propext ⟨fun ⟨p', xs, k', j, e1, e2, h, a, q⟩ => by cases e1; cases e2; exact ⟨xs, h, j, a, q⟩, fun ⟨xs, h, j, a, q⟩ => ⟨p, xs, k, j, rfl, rfl, h, a, q⟩⟩
end
theorem at_0 {α : Type} {a : α} {l : List α} : atI (a :: l) 0 = some a := atI_nat (j := 0) rfl
theorem at_1 {α : Type} {a b : α} {l : List α} : atI (a :: b :: l) 1 = some b := atI_nat (j := 1) rfl
theorem at_2 {α : Type} {a b c : α} {l : List α} : atI (a :: b :: c :: l) 2 = some c := atI_nat (j := 2) rfl
theorem at_3 {α : Type} {a b c d : α} {l : List α} : atI (a :: b :: c :: d :: l) 3 = some d := atI_nat (j := 3) rfl
theorem ixN_0 {n : Nat} : ixN (n + 1) 0 = some 0 := by unfold ixN; rw [if_pos (Int.le_refl 0), if_pos (by omega)]; rfl
theorem ixN_1 {n : Nat} : ixN (n + 1 + 1) 1 = some 1 := by unfold ixN; rw [if_pos (by decide), if_pos (by omega)]; rfl
theorem ixN_2 {n : Nat} : ixN (n + 1 + 1 + 1) 2 = some 2 := by unfold ixN; rw [if_pos (by decide), if_pos (by omega)]; rfl
section
variable {CX : CXT} {P : Program} {w : World} {K : PySem.W.Frag} {mg : Str → Option Value} {base : Heap} {N : List Str} {qual : Str} {scope : Scope} {f : Addr} {cd : Value} {A : Around} {outer : List Env} {s : Shared} {H : Hp} {E : XK}
theorem w_cxK : (cxOf CX P w K mg base N qual scope f cd A outer s H E).K = K := rfl
end
theorem le_size {n : Nat} (h : n ≤ 1000) : n ≤ sizeLine := Nat.le_of_lt (small1000 h)
theorem sl_1 : (0 + 1 ≤ sizeLine) = True := eq_true (le_size (by decide))
theorem sl_2 : (0 + 1 + 1 ≤ sizeLine) = True := eq_true (le_size (by decide))
theorem sl_3 : (0 + 1 + 1 + 1 ≤ sizeLine) = True := eq_true (le_size (by decide))
theorem sl_4 : (0 + 1 + 1 + 1 + 1 ≤ sizeLine) = True := eq_true (le_size (by decide))
theorem sl_5 : (0 + 1 + 1 + 1 + 1 + 1 ≤ sizeLine) = True := eq_true (le_size (by decide))
theorem sl_6 : (0 + 1 + 1 + 1 + 1 + 1 + 1 ≤ sizeLine) = True := eq_true (le_size (by decide))
theorem sl_7 : (0 + 1 + 1 + 1 + 1 + 1 + 1 + 1 ≤ sizeLine) = True := eq_true (le_size (by decide))
theorem sl_8 : (0 + 1 + 1 + 1 + 1 + 1 + 1 + 1 + 1 ≤ sizeLine) = True := eq_true (le_size (by decide))
theorem sl_0 : (0 ≤ sizeLine) = True := eq_true (le_size (by decide))
theorem feed_of {H : Hp} {p : Addr} {g m st c : Int} (hg : 0 ≤ g) (h0 : 0 ≤ m) (h1 : m < 2147483423) (s0 : 0 ≤ st) (s1 : st ≤ c) : Feed (upd H p (.lst [.int g, .int m, .int st])) p c := ⟨g, m, st, upd_same, hg, h0, h1, s0, s1⟩
theorem divq {g m : Int} (hg : 0 ≤ g) (hm : 0 < m) : 0 ≤ g / m := Int.ediv_nonneg hg (Int.le_of_lt hm)
theorem modq {g m : Int} (hm : 0 < m) : 0 ≤ g % m ∧ g % m < m := ⟨Int.emod_nonneg _ (by omega), Int.emod_lt_of_pos _ hm⟩
theorem two_pow {n : Nat} : (1 : Int) ≤ 2 ^ n ∧ (2 : Int) ^ (n + 1) = 2 ^ n + 2 ^ n := by
  constructor
  · have := Int.pow_pos (n := 2) (m := n) (by decide)
    omega
  · rw [Int.pow_succ]; omega
theorem lim_ge : ∀ n, 11 ≤ lim n ∧ (0 < n → 10000000 ≤ lim n)
  | 0 => ⟨by decide, fun h => by omega⟩
  | n + 1 => by
    have h := (lim_ge n).1
    have e : lim (n + 1) = 1000000 * (lim n - 1) := rfl
    exact ⟨by omega, fun _ => by omega⟩
def ForR (lo : Int) (n : Nat) (g : TG) (tb : TS) (D : Ends) (σ : St) (H : Hp) : Prop := ∃ W : Nat → Nat → St → Hp → Prop, (∃ m, W 0 m σ H) ∧ ∀ i m σ H, W i m σ H →
  ((Itr lo n).stop i H ∧ D.nx σ H) ∨ ((Itr lo n).go i H ∧ ∃ N : St → Hp → Prop, (∀ σ' H', N σ' H' → ∃ m', m' < m ∧ W (i + 1) m' σ' H') ∧ ∀ x H', (Itr lo n).yld i H x H' → g x σ H' fun σ2 H2 => tb { D with nx := N, ct := N, bk := D.nx } σ2 H2)
def ForL (K : PySem.W.Frag) (a : Addr) (g : TG) (tb : TS) (D : Ends) (σ : St) (H : Hp) : Prop := ∃ W : Nat → Nat → St → Hp → Prop, (∃ m, W 0 m σ H) ∧ ∀ i m σ H, W i m σ H →
  ((Itl K a).stop i H ∧ D.nx σ H) ∨ ((Itl K a).go i H ∧ ∃ N : St → Hp → Prop, (∀ σ' H', N σ' H' → ∃ m', m' < m ∧ W (i + 1) m' σ' H') ∧ ∀ x H', (Itl K a).yld i H x H' → g x σ H' fun σ2 H2 => tb { D with nx := N, ct := N, bk := D.nx } σ2 H2)
def ForT (K : PySem.W.Frag) (a : Addr) (g : TG) (tb : TS) (D : Ends) (σ : St) (H : Hp) : Prop := ∃ W : Nat → Nat → St → Hp → Prop, (∃ m, W 0 m σ H) ∧ ∀ i m σ H, W i m σ H →
  ((Itt K a).stop i H ∧ D.nx σ H) ∨ ((Itt K a).go i H ∧ ∃ N : St → Hp → Prop, (∀ σ' H', N σ' H' → ∃ m', m' < m ∧ W (i + 1) m' σ' H') ∧ ∀ x H', (Itt K a).yld i H x H' → g x σ H' fun σ2 H2 => tb { D with nx := N, ct := N, bk := D.nx } σ2 H2)
section
variable {σ : St} {H : Hp} {D : Ends} {g : TG} {tb : TS} {K : PySem.W.Frag} {a : Addr}
theorem w_for1 {ta : TA} : tFor (iRng1 ta) g tb D σ H = (ta σ H fun vs H1 => ∃ j : Int, vs = [.int j] ∧ -(2 ^ 62) ≤ j ∧ j < 2 ^ 62 ∧ ForR 0 j.toNat g tb D σ H1) := rfl
theorem w_forL {tl : TE} : tFor (iList K tl) g tb D σ H = (tl σ H fun x H1 => ∃ a, x = .ref a ∧ (∃ xs, SqL K H1 a xs) ∧ ForL K a g tb D σ H1) := rfl
theorem w_forT {tl : TE} : tFor (iTup K tl) g tb D σ H = (tl σ H fun x H1 => ∃ a, x = .ref a ∧ (∃ xs, SqT K H1 a xs) ∧ ForT K a g tb D σ H1) := rfl
theorem forR {lo : Int} {n : Nat} (Pv : Nat → St → Hp → Prop) (h0 : Pv 0 σ H)
    (hs : ∀ i σ H (N : St → Hp → Prop), i < n → Pv i σ H → (∀ σ' H', Pv (i + 1) σ' H' → N σ' H') → g (.int (lo + i)) σ H fun σ2 H2 => tb { D with nx := N, ct := N, bk := D.nx } σ2 H2) (hd : ∀ σ H, Pv n σ H → D.nx σ H) : ForR lo n g tb D σ H :=
  for_range Pv h0 (fun i σ H h p => hs i σ H _ h p fun _ _ q => q) hd
theorem forL {xs : List V} (Pv : Nat → St → Hp → Prop) (h0 : Pv 0 σ H) (hl : ∀ i σ H, i ≤ xs.length → Pv i σ H → SqL K H a xs)
    (hs : ∀ i x σ H (N : St → Hp → Prop), xs[i]? = some x → Pv i σ H → (∀ σ' H', Pv (i + 1) σ' H' → N σ' H') → g x σ H fun σ2 H2 => tb { D with nx := N, ct := N, bk := D.nx } σ2 H2) (hd : ∀ σ H, Pv xs.length σ H → D.nx σ H) : ForL K a g tb D σ H := for_list Pv h0 hl (fun i x σ H h p => hs i x σ H _ h p fun _ _ q => q) hd
theorem forT {xs : List V} (Pv : Nat → St → Hp → Prop) (h0 : Pv 0 σ H) (hl : ∀ i σ H, i ≤ xs.length → Pv i σ H → SqT K H a xs)
    (hs : ∀ i x σ H (N : St → Hp → Prop), xs[i]? = some x → Pv i σ H → (∀ σ' H', Pv (i + 1) σ' H' → N σ' H') → g x σ H fun σ2 H2 => tb { D with nx := N, ct := N, bk := D.nx } σ2 H2) (hd : ∀ σ H, Pv xs.length σ H → D.nx σ H) : ForT K a g tb D σ H := for_tup Pv h0 hl (fun i x σ H h p => hs i x σ H _ h p fun _ _ q => q) hd
end
theorem take_ {H : Hp} {p : Addr} {m c : Int} {Q : VK} {E : XK} (hF : Feed H p c) (hc : c ≤ 900000000) (h1 : 1 ≤ m) (h2 : m ≤ 10 ^ 60)
    (q : ∀ (r : Int) H', 0 ≤ r → r < m → Feed H' p (c + 1024) → Chg p H H' → Q (.int r) H') : spTake [.ref p, .int m] H Q E := ⟨p, m, c, rfl, hF, hc, h1, h2, q⟩
theorem Feed.ne {H : Hp} {p q : Addr} {c : Int} (hF : Feed H p c) (hq : H q = none) : q ≠ p := by
  obtain ⟨xs, h⟩ := hF.lst
  exact (ne_of_none h hq).symm
theorem r2 {r : Int} (h0 : 0 ≤ r) (h1 : r < 2) : r = 0 ∨ r = 1 := by omega
theorem r3 {r : Int} (h0 : 0 ≤ r) (h1 : r < 3) : r = 0 ∨ r = 1 ∨ r = 2 := by omega
theorem r4 {r : Int} (h0 : 0 ≤ r) (h1 : r < 4) : r = 0 ∨ r = 1 ∨ r = 2 ∨ r = 3 := by omega
theorem mid_of {t u : TS} {D : Ends} {σ : St} {H : Hp} (M : St → Hp → Prop) (h1 : ∀ N : St → Hp → Prop, (∀ σ H, M σ H → N σ H) → t { D with nx := N } σ H) (h2 : ∀ σ H, M σ H → u D σ H) : tMid t u D σ H := ⟨M, h1 M fun _ _ q => q, h2⟩
section
variable {K : PySem.W.Frag} {H : Hp} {Q : VK}
theorem isI_mk {x : V} {T : String} {t : Value} {b : Bool} (ty : TyOf K H x t) (u : ∀ t', TyOf K H x t' → t' = t) (k : PySem.W.kitOne K t (.type T) = some b) : rIsI K [x, .ty T] H Q = Q (.bl b) H :=
  propext ⟨fun ⟨x', T', t', b', e, ty', k', q⟩ => by
    cases e
    rw [u _ ty', k] at k'
    cases k'
    exact q, fun q => ⟨x, T, t, b, rfl, ty, k, q⟩⟩
theorem kit_non_bool : PySem.W.kitOne K (.type "NoneType") (.type "bool") = some false := by first | rfl | decide +kernel
theorem kit_str_bool : PySem.W.kitOne K (.type "str") (.type "bool") = some false := by first | rfl | decide +kernel
theorem w_isI_ii {i : Int} : rIsI K [.int i, .ty "int"] H Q = Q (.bl true) H := isI_mk (.int i) (fun _ h => by cases h; rfl) (kit_same _)
theorem w_isI_ib {i : Int} : rIsI K [.int i, .ty "bool"] H Q = Q (.bl false) H := isI_mk (.int i) (fun _ h => by cases h; rfl) kit_int_bool
theorem w_isI_bi {i : Bool} : rIsI K [.bl i, .ty "int"] H Q = Q (.bl true) H := isI_mk (.bl i) (fun _ h => by cases h; rfl) kit_bool_int
theorem w_isI_bb {i : Bool} : rIsI K [.bl i, .ty "bool"] H Q = Q (.bl true) H := isI_mk (.bl i) (fun _ h => by cases h; rfl) (kit_same _)
theorem w_isI_ni : rIsI K [.non, .ty "int"] H Q = Q (.bl false) H := isI_mk .non (fun _ h => by cases h; rfl) kit_non_int
theorem w_isI_nb : rIsI K [.non, .ty "bool"] H Q = Q (.bl false) H := isI_mk .non (fun _ h => by cases h; rfl) kit_non_bool
theorem w_isI_si {x : Str} : rIsI K [.str x, .ty "int"] H Q = Q (.bl false) H := isI_mk (.str x) (fun _ h => by cases h; rfl) kit_str_int
theorem w_isI_sb {x : Str} : rIsI K [.str x, .ty "bool"] H Q = Q (.bl false) H := isI_mk (.str x) (fun _ h => by cases h; rfl) kit_str_bool
end
theorem pow_pos2 (k : Nat) : (0 : Int) < 2 ^ k := Int.pow_pos (by decide)
end L2
set_option Elab.async false
set_option linter.all false
set_option maxRecDepth 100000
set_option maxHeartbeats 1000000
namespace L2
open PySem PySem.Spec PyProof.Rows
def closOf (scope : Scope) (env : Env) : List (Str × Addr) := (scope.names.filterMap fun x => if x.2 == .free then (env.cells.lookup x.1).map fun c => (x.1, c) else none).reverse
theorem closureFor_ok {scope : Scope} {env : Env} (h : ∀ x ∈ scope.names, x.2 = .free → ∃ c, env.cells.lookup x.1 = some c) : closureFor scope env = pure (closOf scope env) := by
  unfold closureFor closOf
  have all : ∀ (l : List (Str × NameKind)) (acc : List (Str × Addr)), (∀ x ∈ l, x.2 = .free → ∃ c, env.cells.lookup x.1 = some c) →
      (forIn l acc fun x r => (match x with | (name, kind) => if (kind == .free) = true then do let a ← cellOf env name; pure (ForInStep.yield ((name, a) :: r)) else pure (ForInStep.yield r) : Sem (ForInStep (List (Str × Addr))))) =
        pure ((l.filterMap fun x => if x.2 == .free then (env.cells.lookup x.1).map fun c => (x.1, c) else none).reverse ++ acc) := by
    intro l
    induction l with
    | nil => intro acc _; simp
    | cons x r ih =>
      intro acc hx
      obtain ⟨n, k⟩ := x
      have hr : ∀ y ∈ r, y.2 = .free → ∃ c, env.cells.lookup y.1 = some c := fun y hy => hx y (List.mem_cons_of_mem _ hy)
      by_cases hk : k = .free
      · subst hk
        obtain ⟨c, hc⟩ := hx (n, .free) List.mem_cons_self rfl
        have e1 : cellOf env n = pure c := by unfold cellOf; rw [show env.cells.lookup n = some c from hc]
        simp only [List.forIn_cons, beq_self_eq_true, if_true, e1, pure_bind, List.filterMap_cons]
        rw [ih _ hr]
        simp [show env.cells.lookup n = some c from hc]
      · have hb : (k == NameKind.free) = false := by simpa using hk
        simp only [List.forIn_cons, hb, Bool.false_eq_true, if_false, pure_bind, List.filterMap_cons]
        rw [ih _ hr]
  have := all scope.names [] h
  rw [List.append_nil] at this
  simp only [bind_pure]
  first | exact this | (rw [this]) | (simpa using this)
theorem mem_clos {scope : Scope} {env : Env} {x : Str} {c : Addr} (h : (closOf scope env).lookup x = some c) : env.cells.lookup x = some c := by
  have m := PySem.mem_of_lookup h
  unfold closOf at m
  rw [List.mem_reverse, List.mem_filterMap] at m
  obtain ⟨y, hy, e⟩ := m
  split at e
  · cases q : env.cells.lookup y.1 with
    | none => rw [q] at e; cases e
    | some d =>
      rw [q] at e
      simp only [Option.map_some, Option.some.injEq, Prod.mk.injEq] at e
      rw [← e.1, q, e.2]
  · cases e
theorem lookup_mem {α : Type} : ∀ {l : List (Str × α)} {x : Str} {c : α}, (x, c) ∈ l → ∃ d, l.lookup x = some d
  | (k, v) :: r, x, c, h => by
    rw [List.lookup_cons]
    cases hb : x == k with
    | true => exact ⟨v, rfl⟩
    | false =>
      rcases List.mem_cons.mp h with e | e
      · injection e with e1 e2
        subst e1
        simp at hb
      · exact lookup_mem e
theorem clos_has {scope : Scope} {env : Env} {x : Str} {c : Addr} (h : (x, NameKind.free) ∈ scope.names) (hc : env.cells.lookup x = some c) : (closOf scope env).lookup x = some c := by
  have m : (x, c) ∈ closOf scope env := by
    unfold closOf
    rw [List.mem_reverse, List.mem_filterMap]
    exact ⟨(x, .free), h, by simp [hc]⟩
  obtain ⟨d, hd⟩ := lookup_mem m
  have := mem_clos hd
  rw [hc] at this
  rw [hd, ← this]
theorem relabel_lookup {env : Env} : ∀ {names : List (Str × NameKind)} {x : Str} {k : NameKind},
    (names.map fun (n, k) => if (k == NameKind.free && env.scope.kind == .function && env.kindOf n == some .cell) then (n, NameKind.cell) else (n, k)).lookup x = some k →
    ∃ k0, names.lookup x = some k0 ∧ (k0 = k ∨ (k0 = .free ∧ k = .cell))
  | [], _, _, h => by simp at h
  | (n, k) :: r, x, k', h => by
    simp only [List.map_cons] at h
    by_cases hc : (k == NameKind.free && env.scope.kind == .function && env.kindOf n == some .cell) = true
    · rw [if_pos hc, List.lookup_cons] at h
      rw [List.lookup_cons]
      cases hb : x == n with
      | true =>
        rw [hb] at h
        simp only [Option.some.injEq] at h
        refine ⟨k, rfl, .inr ⟨?_, h.symm⟩⟩
        simp only [Bool.and_eq_true, beq_iff_eq] at hc
        exact hc.1.1
      | false =>
        rw [hb] at h
        exact relabel_lookup h
    · rw [if_neg hc, List.lookup_cons] at h
      rw [List.lookup_cons]
      cases hb : x == n with
      | true =>
        rw [hb] at h
        simp only [Option.some.injEq] at h
        exact ⟨k, rfl, .inl h⟩
      | false =>
        rw [hb] at h
        exact relabel_lookup h
theorem codeAny_compLoop_gen {prog : Program} {w : World} {A : Around} {R : Result → Shared → Prop} {s : Shared} {elt target iter : Expr} {ifs : List Expr} {scope : Scope} {pos : Pos} {it acc : Value} {env : Env} (I : Nat → Shared → Prop)
    (turn : ∀ n s, I n s → wpAny (model prog w) A (pyNext it) (fun r s₁ => match r with
      | none => R (.ok .next) s₁
      | some v => wpAny (model prog w) A (letOwnedTupleGo target it v) (fun _ s₁' => wpAny (model prog w) A (assign target env v) (fun _ s₂ =>
          wpAny (model prog w) A (forIn ifs true fun c r => if r = true then do let ok ← isTrue c env (eval c env); pure (ForInStep.yield ok) else pure (ForInStep.yield r)) (fun ok s₃ =>
            if ok = true then wpAny (model prog w) A (eval elt env) (fun x s₄ =>
              wpAny (model prog w) A (call (.builtin "list.append") [acc, x]) (fun _ s₅ => ∃ m, m < n ∧ I m s₅) (fun _ _ => False) s₄) (fun _ _ => False) s₃
            else ∃ m, m < n ∧ I m s₃) (fun _ _ => False) s₂) (fun _ _ => False) s₁') (fun _ _ => False) s₁) (fun _ _ => False) s)
    (n : Nat) (h : I n s) :
    codeAny (model prog w) A (.compLoop (.ListComp elt [⟨target, iter, ifs, 0⟩] scope pos) 0 it acc env) R s := by
  refine codeAny_loop rfl I (fun n s hI => ?_) n h
  show wpAny _ A ((compTurn (.ListComp elt [⟨target, iter, ifs, 0⟩] scope pos) 0 it acc env).onRaise (fun x => do noteFrame x env; theTreesLotGoes x)) _ _ s
  refine wpAny_noted ?_
  rw [compTurn_list]
  refine wpAny_bind (wpAny_standAt (wpAny_bind (wpAny_mono (turn n s hI) (fun r s₁ h₁ => ?_) fun _ _ h' => h'.elim)))
  cases r with
  | none => exact wpAny_pure h₁
  | some v =>
    refine wpAny_bind (wpAny_mono h₁ (fun _ s₁' h₁' => ?_) fun _ _ h' => h'.elim)
    refine wpAny_bind (wpAny_mono h₁' (fun _ s₂ h₂ => wpAny_bind (wpAny_mono h₂ (fun ok s₃ h₃ => ?_) fun _ _ h' => h'.elim)) fun _ _ h' => h'.elim)
    cases ok with
    | false => exact wpAny_pure ⟨rfl, h₃⟩
    | true =>
      exact wpAny_bind (wpAny_bind (wpAny_mono h₃ (fun x s₄ h₄ => wpAny_bind (wpAny_mono h₄ (fun _ s₅ h₅ => wpAny_pure (wpAny_pure ⟨rfl, h₅⟩)) fun _ _ h' => h'.elim)) fun _ _ h' => h'.elim))
def PN (X : Cx) (ifs : List Expr) (t : TT) : Prop :=
  ∀ (pins : List (Addr × Obj)) (s : Shared) (σ : St) (H : Hp) (Q : Bool → Hp → Prop), Inv X pins σ H s → t σ H Q →
    wpAny (model X.prog X.w) X.A (forIn ifs true fun c r => if r = true then do let ok ← isTrue c X.env (eval c X.env); pure (ForInStep.yield ok) else pure (ForInStep.yield r)) (TP X pins σ Q) X.xe s
def tYes : TT := fun _ H Q => Q true H
section
variable {X : Cx}
theorem pn_nil : PN X [] tYes := fun _ _ σ H Q I h => wpAny_pure ⟨H, I, h⟩
theorem pn_one {c : Expr} {t : TT} (h : PT X c t) : PN X [c] t := by
  intro pins s σ H Q I q
  refine PySem.wpAny_tests_one (h pins s σ H Q I q)
end
structure CompBody (X : Cx) (tg : Expr) (ifs : List Expr) (elt : Expr) (g : TG) (tt : TT) (te : TE) : Prop where
  tg : PG X tg g
  tt : PN X ifs tt
  te : PE X elt te
def capB (cs : List Nat) (ns XN : List Str) (sc xsc : Scope) : Bool := (cs.zip ns).all fun p => (XN[p.1]? == some p.2) && (sc.names.lookup p.2 == some .free) && (xsc.names.lookup p.2 != some .local)
def capSt (nt : Nat) (cs : List Nat) (σ : St) : St := List.replicate nt none ++ cs.map fun c => (σ[c]?).join
def tComp (wi : TI) (nt : Nat) (cs : List Nat) (g : TG) (tt : TT) (te : TE) : TE := fun σ H Q => wi σ H fun J H1 => ∀ acc, H1 acc = none →
  ∃ W : Nat → Nat → List V → St → Hp → Prop, (∃ m, W 0 m [] (capSt nt cs σ) (upd H1 acc (.lst []))) ∧ ∀ i m ys σ' H', W i m ys σ' H' → H' acc = some (.lst ys) ∧
    ((J.stop i H' ∧ Q (.ref acc) H') ∨ (J.go i H' ∧ ys.length < sizeLine ∧ ∃ N : List V → St → Hp → Prop, (∀ zs σ2 H2, N zs σ2 H2 → ∃ m', m' < m ∧ W (i + 1) m' zs σ2 H2) ∧
      ∀ x H2, J.yld i H' x H2 → g x σ' H2 fun σ3 H3 => tt σ3 H3 fun b H4 => if b = true then te σ3 H4 fun y H5 => H5 acc = some (.lst ys) ∧ N (ys ++ [y]) σ3 (upd H5 acc (.lst (ys ++ [y]))) else N ys σ3 H4))
section
variable {X : Cx}
theorem un_same {fs ex : List Addr} {H H' : Hp} {h h1 h' : Heap} {C : Addr} (u : Un fs ex H H' h h1) (hs : Heap.SameBut C h1 h') (hC : h.objs.size ≤ C) : Un fs ex H H' h h' where
  keep := fun b o e n hb hx => (hs.2 b (Nat.ne_of_lt (Nat.lt_of_lt_of_le (Heap.lt_size e) hC))).trans (u.keep b o e n hb hx)
  slot := fun b o e n hb hx => by
    obtain ⟨sl, q⟩ := u.slot b o e n hb hx
    exact ⟨sl, (hs.2 b (Nat.ne_of_lt (Nat.lt_of_lt_of_le (Heap.lt_size e) hC))).trans q⟩
  free := u.free
  there := fun b o e hx => by
    obtain ⟨o', q⟩ := u.there b o e hx
    exact ⟨o', (hs.2 b (Nat.ne_of_lt (Nat.lt_of_lt_of_le (Heap.lt_size e) hC))).trans q⟩
  tups := u.tups
  frzs := u.frzs
  tbls := u.tbls
theorem hok_same {P : Program} {w : World} {H : Hp} {h h' : Heap} {C : Addr} (x : HOk P w H h) (hs : Heap.SameBut C h h') (hC : H C = none) : HOk P w H h' := fun b u e =>
  (x b u e).stay (fun c v hc q => (hs.2 c (fun z => by
    subst z
    rcases hc with z | z
    · subst z; rw [hC] at e; cases e
    · rw [hC] at z; cases z)).trans q) (fun _ q => q) fun _ _ q => q
end
end L2
set_option Elab.async false
set_option linter.all false
set_option maxRecDepth 100000
set_option maxHeartbeats 1000000
namespace L2
open PySem PySem.Spec PyProof.Rows
inductive Dt where
  | f (x : V)
  | l (xs : List Dt)
  | t (xs : List Dt)
mutual
def Is (K : PySem.W.Frag) (H : Hp) (x : V) : Dt → Prop
  | .f y => x = y ∧ flatV y = true
  | .l ds => ∃ p xs, x = .ref p ∧ SqL K H p xs ∧ IsL K H xs ds
  | .t ds => ∃ p xs, x = .ref p ∧ SqT K H p xs ∧ IsL K H xs ds
def IsL (K : PySem.W.Frag) (H : Hp) (xs : List V) : List Dt → Prop
  | [] => xs = []
  | d :: ds => ∃ x r, xs = x :: r ∧ Is K H x d ∧ IsL K H r ds
end
mutual
def deq : Dt → Dt → Bool
  | .f x, .f y => eqV x y
  | .l xs, .l ys => deqL xs ys
  | .t xs, .t ys => deqL xs ys
  | _, _ => false
def deqL : List Dt → List Dt → Bool
  | [], [] => true
  | x :: xs, y :: ys => deq x y && deqL xs ys
  | _, _ => false
end
mutual
def dep : Dt → Nat
  | .f _ => 0
  | .l xs => depL xs + 1
  | .t xs => depL xs + 1
def depL : List Dt → Nat
  | [] => 0
  | d :: ds => max (dep d) (depL ds)
end
theorem IsL.len {K : PySem.W.Frag} {H : Hp} : ∀ {ds : List Dt} {xs : List V}, IsL K H xs ds → xs.length = ds.length
  | [], xs, h => by rw [IsL] at h; subst h; rfl
  | d :: ds, xs, h => by
    rw [IsL] at h
    obtain ⟨x, r, rfl, _, h⟩ := h
    rw [List.length_cons, List.length_cons, IsL.len h]
theorem IsL.get {K : PySem.W.Frag} {H : Hp} : ∀ {ds : List Dt} {xs : List V} {j : Nat} {x : V}, IsL K H xs ds → xs[j]? = some x → ∃ d, ds[j]? = some d ∧ Is K H x d
  | [], xs, j, x, h, e => by rw [IsL] at h; subst h; simp at e
  | d :: ds, xs, j, x, h, e => by
    rw [IsL] at h
    obtain ⟨y, r, rfl, hy, h⟩ := h
    cases j with
    | zero => simp at e; subst e; exact ⟨d, rfl, hy⟩
    | succ j => exact IsL.get (j := j) h (by simpa using e)
theorem depL_mem {ds : List Dt} : ∀ {d : Dt} {j : Nat}, ds[j]? = some d → dep d ≤ depL ds := by
  induction ds with
  | nil => intro d j e; simp at e
  | cons a r ih =>
    intro d j e
    rw [depL]
    cases j with
    | zero => simp at e; subst e; omega
    | succ j => have := ih (d := d) (j := j) (by simpa using e); omega
mutual
theorem deq_refl : ∀ (d : Dt) {K : PySem.W.Frag} {H : Hp} {x : V}, Is K H x d → deq d d = true
  | .f y, K, H, x, h => by
    rw [Is] at h
    rw [deq]
    have hy := h.2
    cases y <;> first | (simp [eqV]; done) | (exact absurd hy (by decide)) | (cases hy)
  | .l ds, K, H, x, h => by
    rw [Is] at h
    obtain ⟨p, xs, _, _, h⟩ := h
    rw [deq]
    exact deqL_refl ds h
  | .t ds, K, H, x, h => by
    rw [Is] at h
    obtain ⟨p, xs, _, _, h⟩ := h
    rw [deq]
    exact deqL_refl ds h
theorem deqL_refl : ∀ (ds : List Dt) {K : PySem.W.Frag} {H : Hp} {xs : List V}, IsL K H xs ds → deqL ds ds = true
  | [], _, _, _, _ => by rw [deqL]
  | d :: ds, K, H, xs, h => by
    rw [IsL] at h
    obtain ⟨y, r, _, hy, h⟩ := h
    rw [deqL, deq_refl d hy, deqL_refl ds h]
    rfl
end
theorem deqL_get : ∀ {ds es : List Dt}, deqL ds es = (decide (ds.length = es.length) && (List.range ds.length).all fun j => match ds[j]?, es[j]? with | some d, some e => deq d e | _, _ => false)
  | [], [] => by simp [deqL]
  | [], e :: es => by simp [deqL]
  | d :: ds, [] => by simp [deqL]
  | d :: ds, e :: es => by
    rw [deqL, deqL_get]
    have r : List.range (d :: ds).length = 0 :: (List.range ds.length).map (· + 1) := by rw [List.length_cons, List.range_succ_eq_map]
    rw [r, List.all_cons, List.all_map]
    simp only [List.getElem?_cons_zero, List.length_cons, Nat.add_right_cancel_iff]
    have c : ((fun j => match (d :: ds)[j]?, (e :: es)[j]? with | some d, some e => deq d e | _, _ => false) ∘ fun x => x + 1) = (fun j => match ds[j]?, es[j]? with | some d, some e => deq d e | _, _ => false) := by
      funext j
      simp
    rw [c]
    cases deq d e <;> cases decide (ds.length = es.length) <;> rfl
section
variable {X : Cx} {pins : List (Addr × Obj)} {σ : St} {H : Hp} {s : Shared}
mutual
theorem Is.inj : ∀ (d : Dt) {e : Dt} {x : V}, Inv X pins σ H s → Is X.K H x d → Is X.K H x e → (∀ p xs ys, SqL X.K H p xs → ¬ SqT X.K H p ys) → d = e
  | .f y, e, x, I, h, h', hk => by
    rw [Is] at h
    obtain ⟨rfl, hy⟩ := h
    cases e with
    | f z => rw [Is] at h'; rw [h'.1]
    | l ds => rw [Is] at h'; obtain ⟨p, xs, e, _⟩ := h'; subst e; cases hy
    | t ds => rw [Is] at h'; obtain ⟨p, xs, e, _⟩ := h'; subst e; cases hy
  | .l ds, e, x, I, h, h', hk => by
    rw [Is] at h
    obtain ⟨p, xs, rfl, hs, h⟩ := h
    cases e with
    | f z => rw [Is] at h'; obtain ⟨e, hz⟩ := h'; subst e; cases hz
    | l es =>
      rw [Is] at h'
      obtain ⟨q, ys, e, hs', h'⟩ := h'
      cases e
      rw [I.list_inj hs' hs] at h'
      rw [IsL.inj ds I h h' hk]
    | t es =>
      rw [Is] at h'
      obtain ⟨q, ys, e, hs', h'⟩ := h'
      cases e
      exact absurd hs' (hk _ _ _ hs)
  | .t ds, e, x, I, h, h', hk => by
    rw [Is] at h
    obtain ⟨p, xs, rfl, hs, h⟩ := h
    cases e with
    | f z => rw [Is] at h'; obtain ⟨e, hz⟩ := h'; subst e; cases hz
    | l es =>
      rw [Is] at h'
      obtain ⟨q, ys, e, hs', h'⟩ := h'
      cases e
      exact absurd hs (hk _ _ _ hs')
    | t es =>
      rw [Is] at h'
      obtain ⟨q, ys, e, hs', h'⟩ := h'
      cases e
      rw [I.tuple_inj hs' hs] at h'
      rw [IsL.inj ds I h h' hk]
theorem IsL.inj : ∀ (ds : List Dt) {es : List Dt} {xs : List V}, Inv X pins σ H s → IsL X.K H xs ds → IsL X.K H xs es → (∀ p xs ys, SqL X.K H p xs → ¬ SqT X.K H p ys) → ds = es
  | [], es, xs, I, h, h', hk => by
    rw [IsL] at h
    subst h
    cases es with
    | nil => rfl
    | cons e es => rw [IsL] at h'; obtain ⟨_, _, e, _⟩ := h'; cases e
  | d :: ds, es, xs, I, h, h', hk => by
    rw [IsL] at h
    obtain ⟨y, r, rfl, hy, h⟩ := h
    cases es with
    | nil => rw [IsL] at h'; cases h'
    | cons e es =>
      rw [IsL] at h'
      obtain ⟨y', r', e1, hy', h'⟩ := h'
      cases e1
      rw [Is.inj d I hy hy' hk, IsL.inj ds I h h' hk]
end
theorem Inv.apart (I : Inv X pins σ H s) : ∀ p xs ys, SqL X.K H p xs → ¬ SqT X.K H p ys := fun p xs ys h h' => by
  obtain ⟨its, _, ⟨o, n, e, c, _⟩, _⟩ := I.list h
  obtain ⟨its', _, ⟨o', e', c', _⟩, _⟩ := I.tuple h'
  rw [e] at e'
  cases e'
  rw [c] at c'
  exact absurd c' (by decide)
theorem eqAt_F {x : V} (e : Dt) {A : Around} {y : V} {u v : Value} (hu : A.units < cLine) (I : Inv X pins σ H s) (fx : flatV x = true) (hy : Is X.K H y e) (rx : RelV x u) (ry : RelV y v) : SeqAt.EqAt A s u v (deq (.f x) e) := by
  cases e with
  | f y' =>
    rw [Is] at hy
    obtain ⟨rfl, fy⟩ := hy
    rw [deq]
    exact eqAt_V rx ry fx fy
  | l ds =>
    rw [Is] at hy
    obtain ⟨p, ys, rfl, hs, _⟩ := hy
    cases ry
    obtain ⟨its, _, pl, _⟩ := I.list hs
    have hl := pl.isList
    rw [show deq (.f x) (.l ds) = false by rw [deq]; all_goals (intros; simp_all)]
    cases x with
    | non => cases rx; exact SeqAt.EqAt.none_list hl hu
    | bl b => cases rx; exact SeqAt.EqAt.bool_list b hl hu
    | int i => obtain ⟨t, rfl⟩ := rx; exact SeqAt.EqAt.int_list i t hl hu
    | str z => obtain ⟨t, rfl⟩ := rx; exact SeqAt.EqAt.str_list z t hl hu
    | _ => cases fx
  | t ds =>
    rw [Is] at hy
    obtain ⟨p, ys, rfl, hs, _⟩ := hy
    cases ry
    obtain ⟨its, _, pl, _⟩ := I.tuple hs
    have hl : s.heap.IsTuple p its.toArray := pl
    rw [show deq (.f x) (.t ds) = false by rw [deq]; all_goals (intros; simp_all)]
    cases x with
    | non => cases rx; exact SeqAt.EqAt.none_tuple hl hu
    | bl b => cases rx; exact SeqAt.EqAt.bool_tuple b hl hu
    | int i => obtain ⟨t, rfl⟩ := rx; exact SeqAt.EqAt.int_tuple i t hl hu
    | str z => obtain ⟨t, rfl⟩ := rx; exact SeqAt.EqAt.str_tuple z t hl hu
    | _ => cases fx
def deqAt (ds es : List Dt) (j : Nat) : Bool := match ds[j]?, es[j]? with | some d, some e => deq d e | _, _ => false
theorem elems {n : Nat} {A : Around} (ih : ∀ (d e : Dt) {A : Around} {x y : V} {u v : Value}, dep d ≤ n → A.units + n < cLine → Inv X pins σ H s → Is X.K H x d → Is X.K H y e → RelV x u → RelV y v → SeqAt.EqAt A s u v (deq d e)) (hu : A.units + (n + 1) < cLine) (I : Inv X pins σ H s)
    {ds es : List Dt} {xs ys : List V} {its its' : List Value} (hd : depL ds ≤ n) (hx : IsL X.K H xs ds) (hy : IsL X.K H ys es) (rx : Vals xs its) (ry : Vals ys its') :
    ∀ j (h1 : j < its.toArray.size) (h2 : j < its'.toArray.size), SeqAt.EqAt A.in1 s its.toArray[j] its'.toArray[j] (deqAt ds es j) := by
  intro j h1 h2
  have l1 := rx.length
  have l2 := ry.length
  have k1 : j < xs.length := by simpa [l1] using h1
  have k2 : j < ys.length := by simpa [l2] using h2
  obtain ⟨d, e1, q1⟩ := hx.get (List.getElem?_eq_getElem k1)
  obtain ⟨e, e2, q2⟩ := hy.get (List.getElem?_eq_getElem k2)
  obtain ⟨u, hu', ru⟩ := rx.get (List.getElem?_eq_getElem k1)
  obtain ⟨v, hv', rv⟩ := ry.get (List.getElem?_eq_getElem k2)
  have f1 : its.toArray[j] = u := by
    have : its[j]? = some its.toArray[j] := by simp
    rw [hu'] at this
    exact (Option.some.inj this).symm
  have f2 : its'.toArray[j] = v := by
    have : its'[j]? = some its'.toArray[j] := by simp
    rw [hv'] at this
    exact (Option.some.inj this).symm
  rw [f1, f2]
  unfold deqAt
  rw [e1, e2]
  exact ih d e (Nat.le_trans (depL_mem e1) hd) (by rw [Around.in1_units]; omega) I q1 q2 ru rv
theorem all_deqAt {ds es : List Dt} (h : ds.length = es.length) : (List.range ds.length).all (deqAt ds es) = deqL ds es := by
  rw [deqL_get, decide_eq_true h, Bool.true_and]
  rfl
theorem deqL_ne {ds es : List Dt} (h : ds.length ≠ es.length) : deqL ds es = false := by
  rw [deqL_get, decide_eq_false h, Bool.false_and]
theorem rcAt_D : ∀ (n : Nat) (d e : Dt) {A : Around} {x y : V} {u v : Value}, dep d ≤ n → A.units + n < cLine → Inv X pins σ H s → Is X.K H x d → Is X.K H y e → RelV x u → RelV y v → SeqAt.EqAt A s u v (deq d e) ∧ (∀ p, x = .ref p → SeqAt.RcAt A s u v (deq d e))
  | n, .f x', e, A, x, y, u, v, hn, hu, I, hx, hy, rx, ry => by
    rw [Is] at hx
    obtain ⟨rfl, fx⟩ := hx
    exact ⟨eqAt_F e (by omega) I fx hy rx ry, fun p e => by subst e; cases fx⟩
  | 0, .l ds, e, A, x, y, u, v, hn, hu, I, hx, hy, rx, ry => by rw [dep] at hn; omega
  | 0, .t ds, e, A, x, y, u, v, hn, hu, I, hx, hy, rx, ry => by rw [dep] at hn; omega
  | n + 1, .l ds, e, A, x, y, u, v, hn, hu, I, hx, hy, rx, ry => by
    rw [dep] at hn
    have hx0 := hx
    rw [Is] at hx
    obtain ⟨p, xs, rfl, hs, hxs⟩ := hx
    cases rx
    obtain ⟨its, rv, pl, _⟩ := I.list hs
    have hl := pl.isList
    have hu' : A.units < cLine := by omega
    have ih := fun (d e : Dt) {A : Around} {x y : V} {u v : Value} (a : dep d ≤ n) (b : A.units + n < cLine) (c : Inv X pins σ H s) (f : Is X.K H x d) (g : Is X.K H y e) (h : RelV x u) (i : RelV y v) => (rcAt_D n d e a b c f g h i).1
    cases e with
    | f y' =>
      rw [Is] at hy
      obtain ⟨rfl, fy⟩ := hy
      rw [show deq (.l ds) (.f y) = false by rw [deq]; all_goals (intros; simp_all)]
      cases y with
      | non => cases ry; exact ⟨SeqAt.EqAt.list_none hl hu', fun _ _ => SeqAt.RcAt.list_none hl hu'⟩
      | bl b => cases ry; exact ⟨SeqAt.EqAt.list_bool b hl hu', fun _ _ => SeqAt.RcAt.list_bool b hl hu'⟩
      | int i => obtain ⟨t, rfl⟩ := ry; exact ⟨SeqAt.EqAt.list_int i t hl hu', fun _ _ => SeqAt.RcAt.list_int i t hl hu'⟩
      | str z => obtain ⟨t, rfl⟩ := ry; exact ⟨SeqAt.EqAt.list_str z t hl hu', fun _ _ => SeqAt.RcAt.list_str z t hl hu'⟩
      | _ => cases fy
    | l es =>
      have hy0 := hy
      rw [Is] at hy
      obtain ⟨q, ys, rfl, hs', hys⟩ := hy
      cases ry
      obtain ⟨its', rv', pl', _⟩ := I.list hs'
      have hl' := pl'.isList
      have e1 : its.toArray.size = ds.length := by rw [List.size_toArray, ← rv.length, hxs.len]
      have e2 : its'.toArray.size = es.length := by rw [List.size_toArray, ← rv'.length, hys.len]
      have rc : SeqAt.RcAt A s (.ref p) (.ref q) (deq (.l ds) (.l es)) := by
        rw [deq]
        by_cases hz : ds.length = es.length
        · have := SeqAt.RcAt.lists hl hl' (by omega) hu' (elems ih hu I (by omega) hxs hys rv rv')
          rw [e1, all_deqAt hz] at this
          exact this
        · rw [deqL_ne hz]
          exact SeqAt.RcAt.lists_lengths hl hl' (by rw [bne_iff_ne]; omega) hu'
      refine ⟨?_, fun _ _ => rc⟩
      by_cases hpq : p = q
      · subst hpq
        have := Is.inj _ I hx0 hy0 I.apart
        rw [← this, deq_refl _ hx0]
        exact SeqAt.EqAt.same _
      · exact SeqAt.EqAt.of_refs hpq rc
    | t es =>
      rw [Is] at hy
      obtain ⟨q, ys, rfl, hs', hys⟩ := hy
      cases ry
      obtain ⟨its', rv', pl', _⟩ := I.tuple hs'
      have hl' : s.heap.IsTuple q its'.toArray := pl'
      rw [show deq (.l ds) (.t es) = false by rw [deq]; all_goals (intros; simp_all)]
      exact ⟨SeqAt.EqAt.list_tuple hl hl' hu', fun _ _ => SeqAt.RcAt.list_tuple hl hl' hu'⟩
  | n + 1, .t ds, e, A, x, y, u, v, hn, hu, I, hx, hy, rx, ry => by
    rw [dep] at hn
    have hx0 := hx
    rw [Is] at hx
    obtain ⟨p, xs, rfl, hs, hxs⟩ := hx
    cases rx
    obtain ⟨its, rv, pl, _⟩ := I.tuple hs
    have hl : s.heap.IsTuple p its.toArray := pl
    have hu' : A.units < cLine := by omega
    have ih := fun (d e : Dt) {A : Around} {x y : V} {u v : Value} (a : dep d ≤ n) (b : A.units + n < cLine) (c : Inv X pins σ H s) (f : Is X.K H x d) (g : Is X.K H y e) (h : RelV x u) (i : RelV y v) => (rcAt_D n d e a b c f g h i).1
    cases e with
    | f y' =>
      rw [Is] at hy
      obtain ⟨rfl, fy⟩ := hy
      rw [show deq (.t ds) (.f y) = false by rw [deq]; all_goals (intros; simp_all)]
      cases y with
      | non => cases ry; exact ⟨SeqAt.EqAt.tuple_none hl hu', fun _ _ => SeqAt.RcAt.tuple_none hl hu'⟩
      | bl b => cases ry; exact ⟨SeqAt.EqAt.tuple_bool b hl hu', fun _ _ => SeqAt.RcAt.tuple_bool b hl hu'⟩
      | int i => obtain ⟨t, rfl⟩ := ry; exact ⟨SeqAt.EqAt.tuple_int i t hl hu', fun _ _ => SeqAt.RcAt.tuple_int i t hl hu'⟩
      | str z => obtain ⟨t, rfl⟩ := ry; exact ⟨SeqAt.EqAt.tuple_str z t hl hu', fun _ _ => SeqAt.RcAt.tuple_str z t hl hu'⟩
      | _ => cases fy
    | l es =>
      rw [Is] at hy
      obtain ⟨q, ys, rfl, hs', hys⟩ := hy
      cases ry
      obtain ⟨its', rv', pl', _⟩ := I.list hs'
      have hl' := pl'.isList
      rw [show deq (.t ds) (.l es) = false by rw [deq]; all_goals (intros; simp_all)]
      exact ⟨SeqAt.EqAt.tuple_list hl hl' hu', fun _ _ => SeqAt.RcAt.tuple_list hl hl' hu'⟩
    | t es =>
      have hy0 := hy
      rw [Is] at hy
      obtain ⟨q, ys, rfl, hs', hys⟩ := hy
      cases ry
      obtain ⟨its', rv', pl', _⟩ := I.tuple hs'
      have hl' : s.heap.IsTuple q its'.toArray := pl'
      have e1 : its.toArray.size = ds.length := by rw [List.size_toArray, ← rv.length, hxs.len]
      have e2 : its'.toArray.size = es.length := by rw [List.size_toArray, ← rv'.length, hys.len]
      have rc : SeqAt.RcAt A s (.ref p) (.ref q) (deq (.t ds) (.t es)) := by
        rw [deq]
        have := SeqAt.RcAt.tuples hl hl' hu' (elems ih hu I (by omega) hxs hys rv rv')
        rw [e1, e2] at this
        by_cases hz : ds.length = es.length
        · rw [← hz, Nat.min_self, all_deqAt hz, beq_self_eq_true, Bool.and_true] at this
          exact this
        · rw [deqL_ne hz]
          have : (ds.length == es.length) = false := by simpa using hz
          simp_all
      refine ⟨?_, fun _ _ => rc⟩
      by_cases hpq : p = q
      · subst hpq
        have := Is.inj _ I hx0 hy0 I.apart
        rw [← this, deq_refl _ hx0]
        exact SeqAt.EqAt.same _
      · exact SeqAt.EqAt.of_refs hpq rc
end
def rEqD (K : PySem.W.Frag) : R2 := fun x y H Q => ∃ p d e, x = .ref p ∧ Is K H x d ∧ Is K H y e ∧ dep d ≤ 50 ∧ Q (.bl (deq d e)) H
def rNeD (K : PySem.W.Frag) : R2 := fun x y H Q => ∃ p d e, x = .ref p ∧ Is K H x d ∧ Is K H y e ∧ dep d ≤ 50 ∧ Q (.bl (!deq d e)) H
section
variable {X : Cx}
theorem op_eqD {k : Nat} (hr : Room k X.A) : OpR X (compareOp .Eq) (rEqD X.K) := by
  intro pins s σ H x y v u Q I rx ry h
  obtain ⟨p, d, e, rfl, hx, hy, hd, q⟩ := h
  have := (rcAt_D 50 d e (A := X.A) hd (by have := hr.units; omega) I hx hy rx ry).2 p rfl
  exact this X.prog X.w X.xe _ ⟨.bl _, H, I, rfl, q⟩
end
end L2
set_option Elab.async false
set_option linter.all false
set_option maxRecDepth 100000
set_option maxHeartbeats 1000000
namespace L2
open PySem PySem.Spec PyProof.Rows
section
variable {X : Cx} {pins : List (Addr × Obj)} {σ : St} {H : Hp} {s : Shared}
theorem ih50 (n : Nat) (d e : Dt) {A : Around} {x y : V} {u v : Value} (a : dep d ≤ n) (b : A.units + n < cLine) (c : Inv X pins σ H s) (f : Is X.K H x d) (g : Is X.K H y e) (h : RelV x u) (i : RelV y v) : SeqAt.EqAt A s u v (deq d e) := (rcAt_D n d e a b c f g h i).1
theorem neAt_D (n : Nat) (d e : Dt) {A : Around} {p : Addr} {y : V} {v : Value} (hn : dep d ≤ n + 1) (hu : A.units + (n + 1) < cLine) (I : Inv X pins σ H s) (hx : Is X.K H (.ref p) d) (hy : Is X.K H y e) (ry : RelV y v) : SeqAt.RcNeAt A s (.ref p) v (!deq d e) := by
  have hu' : A.units < cLine := by omega
  cases d with
  | f x => rw [Is] at hx; obtain ⟨e, hz⟩ := hx; subst e; cases hz
  | l ds =>
    rw [dep] at hn
    rw [Is] at hx
    obtain ⟨p', xs, e0, hs, hxs⟩ := hx
    cases e0
    obtain ⟨its, rv, pl, _⟩ := I.list hs
    have hl := pl.isList
    cases e with
    | f y' =>
      rw [Is] at hy
      obtain ⟨rfl, fy⟩ := hy
      rw [show deq (.l ds) (.f y) = false by rw [deq]; all_goals (intros; simp_all)]
      cases y with
      | non => cases ry; exact SeqAt.RcNeAt.list_none hl hu'
      | bl b => cases ry; exact SeqAt.RcNeAt.list_bool b hl hu'
      | int i => obtain ⟨t, rfl⟩ := ry; exact SeqAt.RcNeAt.list_int i t hl hu'
      | str z => obtain ⟨t, rfl⟩ := ry; exact SeqAt.RcNeAt.list_str z t hl hu'
      | _ => cases fy
    | l es =>
      rw [Is] at hy
      obtain ⟨q, ys, rfl, hs', hys⟩ := hy
      cases ry
      obtain ⟨its', rv', pl', _⟩ := I.list hs'
      have hl' := pl'.isList
      have e1 : its.toArray.size = ds.length := by rw [List.size_toArray, ← rv.length, hxs.len]
      have e2 : its'.toArray.size = es.length := by rw [List.size_toArray, ← rv'.length, hys.len]
      rw [deq]
      by_cases hz : ds.length = es.length
      · have := SeqAt.RcNeAt.lists hl hl' (by omega) hu' (elems (ih50 n) hu I (by omega) hxs hys rv rv')
        rw [e1, all_deqAt hz] at this
        exact this
      · rw [deqL_ne hz]
        exact SeqAt.RcNeAt.lists_lengths hl hl' (by rw [bne_iff_ne]; omega) hu'
    | t es =>
      rw [Is] at hy
      obtain ⟨q, ys, rfl, hs', hys⟩ := hy
      cases ry
      obtain ⟨its', rv', pl', _⟩ := I.tuple hs'
      have hl' : s.heap.IsTuple q its'.toArray := pl'
      rw [show deq (.l ds) (.t es) = false by rw [deq]; all_goals (intros; simp_all)]
      exact SeqAt.RcNeAt.list_tuple hl hl' hu'
  | t ds =>
    rw [dep] at hn
    rw [Is] at hx
    obtain ⟨p', xs, e0, hs, hxs⟩ := hx
    cases e0
    obtain ⟨its, rv, pl, _⟩ := I.tuple hs
    have hl : s.heap.IsTuple p its.toArray := pl
    cases e with
    | f y' =>
      rw [Is] at hy
      obtain ⟨rfl, fy⟩ := hy
      rw [show deq (.t ds) (.f y) = false by rw [deq]; all_goals (intros; simp_all)]
      cases y with
      | non => cases ry; exact SeqAt.RcNeAt.tuple_none hl hu'
      | bl b => cases ry; exact SeqAt.RcNeAt.tuple_bool b hl hu'
      | int i => obtain ⟨t, rfl⟩ := ry; exact SeqAt.RcNeAt.tuple_int i t hl hu'
      | str z => obtain ⟨t, rfl⟩ := ry; exact SeqAt.RcNeAt.tuple_str z t hl hu'
      | _ => cases fy
    | l es =>
      rw [Is] at hy
      obtain ⟨q, ys, rfl, hs', hys⟩ := hy
      cases ry
      obtain ⟨its', rv', pl', _⟩ := I.list hs'
      have hl' := pl'.isList
      rw [show deq (.t ds) (.l es) = false by rw [deq]; all_goals (intros; simp_all)]
      exact SeqAt.RcNeAt.tuple_list hl hl' hu'
    | t es =>
      rw [Is] at hy
      obtain ⟨q, ys, rfl, hs', hys⟩ := hy
      cases ry
      obtain ⟨its', rv', pl', _⟩ := I.tuple hs'
      have hl' : s.heap.IsTuple q its'.toArray := pl'
      have e1 : its.toArray.size = ds.length := by rw [List.size_toArray, ← rv.length, hxs.len]
      have e2 : its'.toArray.size = es.length := by rw [List.size_toArray, ← rv'.length, hys.len]
      rw [deq]
      have := SeqAt.RcNeAt.tuples hl hl' hu' (elems (ih50 n) hu I (by omega) hxs hys rv rv')
      rw [e1, e2] at this
      by_cases hz : ds.length = es.length
      · rw [← hz, Nat.min_self, all_deqAt hz, beq_self_eq_true, Bool.and_true] at this
        exact this
      · rw [deqL_ne hz]
        have : (ds.length == es.length) = false := by simpa using hz
        simp_all
end
section
variable {X : Cx}
theorem op_neD {k : Nat} (hr : Room k X.A) : OpR X (compareOp .NotEq) (rNeD X.K) := by
  intro pins s σ H x y v u Q I rx ry h
  obtain ⟨p, d, e, rfl, hx, hy, hd, q⟩ := h
  cases rx
  have := neAt_D 50 d e (A := X.A) (by omega) (by have := hr.units; omega) I hx hy ry
  exact this X.prog X.w X.xe _ ⟨.bl _, H, I, rfl, q⟩
end
theorem isL_flat {K : PySem.W.Frag} {H : Hp} : ∀ {xs : List V}, xs.all flatV = true → IsL K H xs (xs.map Dt.f)
  | [], _ => by rw [List.map_nil, IsL]
  | x :: r, h => by
    rw [List.all_cons, Bool.and_eq_true] at h
    rw [List.map_cons, IsL]
    exact ⟨x, r, rfl, by rw [Is]; exact ⟨rfl, h.1⟩, isL_flat h.2⟩
theorem is_lst {K : PySem.W.Frag} {H : Hp} {p : Addr} {xs : List V} (h : SqL K H p xs) (f : xs.all flatV = true) : Is K H (.ref p) (.l (xs.map Dt.f)) := by rw [Is]; exact ⟨p, xs, rfl, h, isL_flat f⟩
theorem is_tup {K : PySem.W.Frag} {H : Hp} {p : Addr} {xs : List V} (h : SqT K H p xs) (f : xs.all flatV = true) : Is K H (.ref p) (.t (xs.map Dt.f)) := by rw [Is]; exact ⟨p, xs, rfl, h, isL_flat f⟩
theorem depL_flat : ∀ {xs : List V}, depL (xs.map Dt.f) = 0
  | [] => by rw [List.map_nil, depL]
  | x :: r => by rw [List.map_cons, depL, depL_flat, dep]; rfl
theorem dep_l {xs : List V} : dep (.l (xs.map Dt.f)) = 1 := by rw [dep, depL_flat]
theorem dep_t {xs : List V} : dep (.t (xs.map Dt.f)) = 1 := by rw [dep, depL_flat]
theorem flat_ints (ns : List Int) : (ns.map V.int).all flatV = true := by rw [List.all_map]; simp [flatV]
theorem deqL_ints : ∀ (ns ms : List Int), deqL ((ns.map V.int).map Dt.f) ((ms.map V.int).map Dt.f) = decide (ns = ms)
  | [], [] => by simp [deqL]
  | [], m :: ms => by simp [deqL]
  | n :: ns, [] => by simp [deqL]
  | n :: ns, m :: ms => by
    rw [List.map_cons, List.map_cons, List.map_cons, List.map_cons, deqL, deqL_ints ns ms, deq]
    by_cases h1 : n = m <;> by_cases h2 : ns = ms <;> simp [eqV, h1, h2]
theorem deq_lints (ns ms : List Int) : deq (.l ((ns.map V.int).map Dt.f)) (.l ((ms.map V.int).map Dt.f)) = decide (ns = ms) := by rw [deq, deqL_ints]
theorem eqLI {K : PySem.W.Frag} {H : Hp} {p q : Addr} {ns ms : List Int} {Q : VK} (h1 : SqL K H p (ns.map V.int)) (h2 : SqL K H q (ms.map V.int)) (h : Q (.bl (decide (ns = ms))) H) : rEqD K (.ref p) (.ref q) H Q :=
  ⟨p, _, _, rfl, is_lst h1 (flat_ints _), is_lst h2 (flat_ints _), by rw [dep_l]; decide, by rw [deq_lints]; exact h⟩
theorem neLI {K : PySem.W.Frag} {H : Hp} {p q : Addr} {ns ms : List Int} {Q : VK} (h1 : SqL K H p (ns.map V.int)) (h2 : SqL K H q (ms.map V.int)) (h : Q (.bl (!decide (ns = ms))) H) : rNeD K (.ref p) (.ref q) H Q :=
  ⟨p, _, _, rfl, is_lst h1 (flat_ints _), is_lst h2 (flat_ints _), by rw [dep_l]; decide, by rw [deq_lints]; exact h⟩
def CompIt (J : It) (nt : Nat) (cs : List Nat) (g : TG) (tt : TT) (te : TE) (σ : St) (H1 : Hp) (Q : VK) : Prop := ∀ acc, H1 acc = none →
  ∃ W : Nat → Nat → List V → St → Hp → Prop, (∃ m, W 0 m [] (capSt nt cs σ) (upd H1 acc (.lst []))) ∧ ∀ i m ys σ' H', W i m ys σ' H' → H' acc = some (.lst ys) ∧
    ((J.stop i H' ∧ Q (.ref acc) H') ∨ (J.go i H' ∧ ys.length < sizeLine ∧ ∃ N : List V → St → Hp → Prop, (∀ zs σ2 H2, N zs σ2 H2 → ∃ m', m' < m ∧ W (i + 1) m' zs σ2 H2) ∧
      ∀ x H2, J.yld i H' x H2 → g x σ' H2 fun σ3 H3 => tt σ3 H3 fun b H4 => if b = true then te σ3 H4 fun y H5 => H5 acc = some (.lst ys) ∧ N (ys ++ [y]) σ3 (upd H5 acc (.lst (ys ++ [y]))) else N ys σ3 H4))
section
variable {K : PySem.W.Frag} {σ : St} {H : Hp} {Q : VK} {nt : Nat} {cs : List Nat} {g : TG} {tt : TT} {te : TE} {a : Addr}
theorem w_compL {tl : TE} : tComp (iList K tl) nt cs g tt te σ H Q = (tl σ H fun x H1 => ∃ a, x = .ref a ∧ (∃ xs, SqL K H1 a xs) ∧ CompIt (Itl K a) nt cs g tt te σ H1 Q) := rfl
theorem w_compT {tl : TE} : tComp (iTup K tl) nt cs g tt te σ H Q = (tl σ H fun x H1 => ∃ a, x = .ref a ∧ (∃ xs, SqT K H1 a xs) ∧ CompIt (Itt K a) nt cs g tt te σ H1 Q) := rfl
theorem w_comp1 {ta : TA} : tComp (iRng1 ta) nt cs g tt te σ H Q = (ta σ H fun vs H1 => ∃ j : Int, vs = [.int j] ∧ -(2 ^ 62) ≤ j ∧ j < 2 ^ 62 ∧ CompIt (Itr 0 j.toNat) nt cs g tt te σ H1 Q) := rfl
theorem w_yes {R : Bool → Hp → Prop} : tYes σ H R = R true H := rfl
def capV (cs : List Nat) (σ : St) : St := cs.map fun c => (σ[c]?).join
theorem comp_pure {J : It} {xs : List V} (f : V → Option V) (hz : xs.length ≤ sizeLine)
    (hJ : ∀ H', Same H H' → (∀ i, i < xs.length → J.go i H') ∧ (∀ i x H2, J.yld i H' x H2 → H2 = H' ∧ (i < xs.length → xs[i]? = some x)) ∧ J.stop xs.length H')
    (hb : ∀ x H' (R : Option V → Hp → Prop), x ∈ xs → Same H H' → R (f x) H' → tt (some x :: capV cs σ) H' fun b H4 => if b = true then te (some x :: capV cs σ) H4 fun y H5 => R (some y) H5 else R none H4)
    (hd : ∀ acc, H acc = none → Q (.ref acc) (upd H acc (.lst (xs.filterMap f)))) : CompIt J 1 cs (gName 0) tt te σ H Q := by
  intro acc hn
  have sm : ∀ ys, Same H (upd H acc (.lst ys)) := fun ys => same_new hn _
  refine ⟨fun i m ys σ' H' => m = xs.length - i ∧ i ≤ xs.length ∧ (∃ o, σ' = o :: capV cs σ) ∧ ys = (xs.take i).filterMap f ∧ H' = upd H acc (.lst ys), ⟨_, rfl, Nat.zero_le _, ⟨none, rfl⟩, by simp, rfl⟩, ?_⟩
  rintro i m ys σ' H' ⟨rfl, hi, ⟨o, rfl⟩, hys, rfl⟩
  refine ⟨upd_same, ?_⟩
  have hl : ys.length ≤ i := by
    rw [hys]
    exact Nat.le_trans (List.length_filterMap_le _ _) (by rw [List.length_take]; omega)
  by_cases hlt : i < xs.length
  · refine .inr ⟨(hJ _ (sm ys)).1 i hlt, by omega, fun zs σ2 H2 => (∃ o, σ2 = o :: capV cs σ) ∧ zs = (xs.take (i + 1)).filterMap f ∧ H2 = upd H acc (.lst zs), fun zs σ2 H2 ⟨q1, q2, q3⟩ => ⟨xs.length - (i + 1), by omega, rfl, hlt, q1, q2, q3⟩, fun x H2 y => ?_⟩
    obtain ⟨e, hx⟩ := (hJ _ (sm ys)).2.1 i x H2 y
    have hx := hx hlt
    subst e
    show tt (some x :: capV cs σ) _ _
    have tk : xs.take (i + 1) = xs.take i ++ [x] := by rw [List.take_add_one, hx]; rfl
    refine hb x _ (fun o H5 => match o with | some y => H5 acc = some (.lst ys) ∧ (∃ o, some x :: capV cs σ = o :: capV cs σ) ∧ ys ++ [y] = (xs.take (i + 1)).filterMap f ∧ upd H5 acc (.lst (ys ++ [y])) = upd H acc (.lst (ys ++ [y])) | none => (∃ o, some x :: capV cs σ = o :: capV cs σ) ∧ ys = (xs.take (i + 1)).filterMap f ∧ H5 = upd H acc (.lst ys)) (List.mem_of_getElem? hx) (sm ys) ?_
    cases hf : f x with
    | none =>
      refine ⟨⟨_, rfl⟩, ?_, rfl⟩
      rw [tk, List.filterMap_append, ← hys]
      simp [hf]
    | some y =>
      refine ⟨upd_same, ⟨_, rfl⟩, ?_, upd_upd⟩
      rw [tk, List.filterMap_append, ← hys]
      simp [hf]
  · have e : i = xs.length := by omega
    subst e
    rw [List.take_length] at hys
    subst hys
    exact .inl ⟨(hJ _ (sm _)).2.2, hd acc hn⟩
theorem comp_L {xs : List V} (h : SqL K H a xs) (hz : xs.length ≤ sizeLine) (f : V → Option V)
    (hb : ∀ x H' (R : Option V → Hp → Prop), x ∈ xs → Same H H' → R (f x) H' → tt (some x :: capV cs σ) H' fun b H4 => if b = true then te (some x :: capV cs σ) H4 fun y H5 => R (some y) H5 else R none H4)
    (hd : ∀ acc, H acc = none → Q (.ref acc) (upd H acc (.lst (xs.filterMap f)))) : CompIt (Itl K a) 1 cs (gName 0) tt te σ H Q :=
  comp_pure f hz (fun H' s => by
    have h' := s.seq h
    exact ⟨fun i hi => ⟨xs, xs[i], h', by simp [hi]⟩, fun i x H2 y => ⟨y.1, fun _ => y.2 xs h'⟩, ⟨xs, h', Nat.le_refl _⟩⟩) hb hd
def rngV (lo : Int) (n : Nat) : List V := (List.range n).map fun (i : Nat) => V.int (lo + (i : Int))
theorem rngV_get {lo : Int} {n i : Nat} (h : i < n) : (rngV lo n)[i]? = some (.int (lo + i)) := by unfold rngV; rw [List.getElem?_map, List.getElem?_range h]; rfl
theorem rngV_len {lo : Int} {n : Nat} : (rngV lo n).length = n := by unfold rngV; rw [List.length_map, List.length_range]
theorem comp_R {lo : Int} {n : Nat} (hz : n ≤ sizeLine) (f : V → Option V)
    (hb : ∀ x H' (R : Option V → Hp → Prop), x ∈ rngV lo n → Same H H' → R (f x) H' → tt (some x :: capV cs σ) H' fun b H4 => if b = true then te (some x :: capV cs σ) H4 fun y H5 => R (some y) H5 else R none H4)
    (hd : ∀ acc, H acc = none → Q (.ref acc) (upd H acc (.lst ((rngV lo n).filterMap f)))) : CompIt (Itr lo n) 1 cs (gName 0) tt te σ H Q :=
  comp_pure (xs := rngV lo n) f (by rw [rngV_len]; exact hz) (fun H' s => by
    rw [rngV_len]
    exact ⟨fun i hi => hi, fun i x H2 y => ⟨y.1, fun hi => by rw [rngV_get hi, y.2]⟩, Nat.le_refl _⟩) hb hd
end
end L2
set_option Elab.async false
set_option linter.all false
set_option maxRecDepth 100000
set_option maxHeartbeats 1000000
namespace L2
open PySem PySem.Spec PyProof.Rows
section
variable {X : Cx}
theorem vals_bools : ∀ {bs : List Bool} {us : List Value}, Vals (bs.map V.bl) us → us = bs.map Value.bool
  | [], _, h => by cases h; rfl
  | b :: r, _, h => by
    cases h with
    | cons q t =>
      cases q
      rw [vals_bools t]
      rfl
theorem truth_bools {prog : Program} {w : World} {A : Around} {bs : List Bool} : TruthOf prog w A (fun i v => (bs.map Value.bool).toArray[i]? = some v) (fun i => bs.getD i true) := by
  intro i v s Q E h hq
  rw [List.getElem?_toArray, List.getElem?_map] at h
  cases e : bs[i]? with
  | none => rw [e] at h; cases h
  | some b =>
    rw [e] at h
    cases h
    have : bs.getD i true = b := by simp [List.getD, e]
    exact wpAny_truthy_bool (by rw [← this]; exact hq)
theorem all_getD : ∀ (bs : List Bool), (List.range bs.length).all (fun i => bs.getD i true) = bs.all id
  | [] => rfl
  | b :: r => by
    rw [List.length_cons, List.range_succ_eq_map, List.all_cons, List.all_map, List.all_cons]
    have : ((fun i => (b :: r).getD i true) ∘ Nat.succ) = fun i => r.getD i true := by funext i; simp [List.getD]
    rw [this, all_getD r]
    rfl
theorem any_getD : ∀ (bs : List Bool), (List.range bs.length).any (fun i => bs.getD i true) = bs.any id
  | [] => rfl
  | b :: r => by
    rw [List.length_cons, List.range_succ_eq_map, List.any_cons, List.any_map, List.any_cons]
    have : ((fun i => (b :: r).getD i true) ∘ Nat.succ) = fun i => r.getD i true := by funext i; simp [List.getD]
    rw [this, any_getD r]
    rfl
def rAll : List V → Hp → VK → Prop := fun xs H Q => ∃ (p : Addr) (bs : List Bool), xs = [.ref p] ∧ H p = some (.lst (bs.map V.bl)) ∧ Q (.bl (bs.all id)) H
def rAny : List V → Hp → VK → Prop := fun xs H Q => ∃ (p : Addr) (bs : List Bool), xs = [.ref p] ∧ H p = some (.lst (bs.map V.bl)) ∧ Q (.bl (bs.any id)) H
theorem walk_list {pins : List (Addr × Obj)} {σ : St} {H : Hp} {s : Shared} {p : Addr} {xs : List V} (hc : X.calm = true) (I : Inv X pins σ H s) (hp : H p = some (.lst xs)) {Q : Value → Shared → Prop} {E : Value → Shared → Prop}
    (h : ∀ (its : List Value), Vals xs its → ∀ s2 : Shared, s2.heap.IsListIter s.heap.objs.size p 0 ∧ s2.heap.IsList p its.toArray → (∀ b ∈ [s.heap.objs.size, p], b < s2.heap.objs.size) → p ≠ s.heap.objs.size → Walks X.prog X.w X.A.in1 s.heap.objs.size [s.heap.objs.size, p] [s.heap.objs.size] its.toArray.size (fun i v => its.toArray[i]? = some v) (fun i h => h.IsListIter s.heap.objs.size p i ∧ h.IsList p its.toArray) →
      (∀ h' tk, (∀ b o, b ∉ [s.heap.objs.size] → s2.heap.get? b = some o → h'.get? b = some o) → Inv X pins σ H { s2 with heap := h', toks := tk }) → Q (.ref s.heap.objs.size) s2) : wpAny (model X.prog X.w) X.A.in1 (pyIter (.ref p)) Q E s := by
  obtain ⟨its, rv, pl, _⟩ := I.list (SqL.of hp)
  have hlt : p < s.heap.objs.size := I.hok.lt hp
  refine wpAny_pyIter_list pl.isList (h its rv _ ⟨⟨_, Heap.get?_push_size _ rfl, rfl, rfl⟩, pl.isList.push _⟩ (fun b hb => ?_) (Nat.ne_of_lt hlt) (Walks.list (A := X.A.in1) (I.ok.hd hc) _ p (Nat.ne_of_lt hlt) its.toArray) fun h' tk hk => ?_)
  · show b < (s.heap.push _).objs.size
    rw [Heap.size_push]
    rcases List.mem_cons.mp hb with e | e
    · rw [e]; exact Nat.lt_succ_self _
    · have : b = p := by simpa using e
      rw [this]; exact Nat.lt_succ_of_lt hlt
  · exact I.kept (h' := h') (t' := tk) fun b o e => hk b o (by simpa using Nat.ne_of_lt (Heap.lt_size e)) (Heap.get?_push_of_some _ e)
theorem call_all (hc : X.calm = true) : CallR X (.builtin "all") rAll := by
  intro pins s σ H xs us Q I r h
  obtain ⟨p, bs, rfl, hp, q⟩ := h
  obtain ⟨u, rfl, ru⟩ := Vals.one r
  cases ru
  refine call_all_walk (walk_list hc I hp fun its rv s2 st hfp hne W hI => ?_)
  have e := vals_bools rv
  subst e
  refine ⟨_, _, _, _, _, _, _, rfl, W, st, truth_bools, fun h' tk hk => ⟨.bl (bs.all id), H, hI h' tk hk, ?_, q⟩⟩
  have : (bs.map Value.bool).toArray.size = bs.length := by simp
  rw [this, all_getD]
  rfl
theorem call_any (hc : X.calm = true) : CallR X (.builtin "any") rAny := by
  intro pins s σ H xs us Q I r h
  obtain ⟨p, bs, rfl, hp, q⟩ := h
  obtain ⟨u, rfl, ru⟩ := Vals.one r
  cases ru
  refine call_any_walk (walk_list hc I hp fun its rv s2 st hfp hne W hI => ?_)
  have e := vals_bools rv
  subst e
  refine ⟨_, _, _, _, _, _, _, rfl, W, st, truth_bools, fun h' tk hk => ⟨.bl (bs.any id), H, hI h' tk hk, ?_, q⟩⟩
  have : (bs.map Value.bool).toArray.size = bs.length := by simp
  rw [this, any_getD]
  rfl
theorem vals_intItems : ∀ {ns : List Int} {us : List Value}, Vals (ns.map V.int) us → ∃ xs : List (Int × Tok), us = xs.map (fun p => Value.int p.1 p.2) ∧ xs.map (·.1) = ns
  | [], _, h => by cases h; exact ⟨[], rfl, rfl⟩
  | n :: r, _, h => by
    cases h with
    | cons q t =>
      obtain ⟨tk, rfl⟩ := q
      obtain ⟨xs, rfl, e⟩ := vals_intItems t
      exact ⟨(n, tk) :: xs, rfl, by simp [e]⟩
def rBits : V → List V → Hp → VK → Prop := fun x vs H Q => ∃ i, x = .int i ∧ vs = [] ∧ Q (.int (Builtin.Int.intBits i : Nat)) H
theorem w_rBits {i : Int} {H : Hp} {Q : VK} : rBits (.int i) [] H Q = Q (.int (Builtin.Int.intBits i : Nat)) H := propext ⟨fun ⟨j, e, _, q⟩ => by cases e; exact q, fun q => ⟨i, rfl, rfl, q⟩⟩
theorem w_tyInt {K : PySem.W.Frag} {i : Int} {H : Hp} : tyV K "int" (.int i) H = True := eq_true (by first | exact rfl | (unfold tyV; rfl) | (unfold tyV; simp))
end
section
variable {K : PySem.W.Frag} {σ : St} {H : Hp} {Q : VK}
theorem w_bm {T : String} {r : V → List V → Hp → VK → Prop} {to : TE} {t : TA} : tBM K T r to t σ H Q = (to σ H fun x H1 => tyV K T x H1 ∧ t σ H1 fun xs H2 => r x xs H2 Q) := rfl
theorem w_bm0 {T : String} {r : V → List V → Hp → VK → Prop} {to : TE} : tBM0 K T r to σ H Q = (to σ H fun x H1 => tyV K T x H1 ∧ r x [] H1 Q) := rfl
theorem w_append {l : Addr} {y : V} : rAppend (.ref l) [y] H Q = ∃ xs, H l = some (.lst xs) ∧ xs.length < sizeLine ∧ Q .non (upd H l (.lst (xs ++ [y]))) :=
  propext ⟨fun ⟨l', xs, y', e1, e2, h, z, q⟩ => by cases e1; cases e2; exact ⟨xs, h, z, q⟩, fun ⟨xs, h, z, q⟩ => ⟨l, xs, y, rfl, rfl, h, z, q⟩⟩
theorem ty_list {l : Addr} {xs : List V} (h : H l = some (.lst xs)) : tyV K "list" (.ref l) H := by
  first | exact .inl ⟨rfl, _, SqL.of h⟩ | (unfold tyV; exact .inl ⟨rfl, _, SqL.of h⟩)
end
end L2
set_option Elab.async false
set_option linter.all false
set_option maxRecDepth 100000
namespace L2
open PySem PySem.Spec PyProof.Rows PySem.W
end L2
set_option Elab.async false
set_option linter.all false
set_option maxRecDepth 100000
namespace L2
open PySem PySem.Spec PyProof.Rows
def gTupM (n : Nat) (t : TGs) : TG := fun v σ H Q => ∃ a xs, v = .ref a ∧ H a = some (.tup xs) ∧ xs.length = n ∧ t xs σ H Q
theorem pg_tupM {X : Cx} {es : List Expr} {k : Nat} {t : TGs} {pos : Pos} (n : Nat) (hc : X.calm = true) (h : PGs X es t) (hn : (assignEach es X.env).length = n := by rfl) (hst : (assignEach es X.env).findIdx? (·.1) = none := by rfl) : PG X (.Tuple es k pos) (gTupM n t) := by
  intro pins s σ H v u Q I r hw
  obtain ⟨a, xs, e1, hq, hl, hw⟩ := hw
  exact pg_tup (X := X) (n := n) hc h hn hst pins s σ H v u Q I r ⟨a, xs, e1, SqT.of hq, hl, hw⟩
section
variable {K : PySem.W.Frag} {σ : St} {H : Hp} {Q : VK} {R : St → Hp → Prop}
theorem w_gTupM {n : Nat} {t : TGs} {a : Addr} : gTupM n t (.ref a) σ H R = ∃ xs, H a = some (.tup xs) ∧ xs.length = n ∧ t xs σ H R :=
  propext ⟨fun ⟨a', xs, e, h, l, q⟩ => by cases e; exact ⟨xs, h, l, q⟩, fun ⟨xs, h, l, q⟩ => ⟨a, xs, rfl, h, l, q⟩⟩
theorem w_gCons {t : TG} {u : TGs} {v : V} {r : List V} : gCons t u (v :: r) σ H R = t v σ H fun σ' H' => u r σ' H' R :=
  propext ⟨fun ⟨v', r', e, q⟩ => by cases e; exact q, fun q => ⟨v, r, rfl, q⟩⟩
theorem w_gNil : gNil [] σ H R = R σ H := propext ⟨fun ⟨_, q⟩ => q, fun q => ⟨rfl, q⟩⟩
theorem isI_ll {t : Addr} {xs : List V} (h : H t = some (.lst xs)) : rIsI K [.ref t, .ty "list"] H Q = Q (.bl true) H := isI_mk (.lst h) (fun _ z => by cases z <;> first | rfl | (rename_i e; rw [h] at e; cases e) | (rename_i e _ _ _ _ _; rw [h] at e; cases e)) (kit_same _)
end
end L2
set_option Elab.async false
set_option linter.all false
set_option maxRecDepth 100000
namespace L2
open PySem PySem.Spec PyProof.Rows
def rDG : R2 := fun x y H Q => ∃ a k, x = .ref a ∧ y = kV k ∧ ∃ kvs, H a = some (.dK kvs) ∧ ∃ v, valV kvs k = some v ∧ Q v H
def rDP : V → V → V → Hp → (Hp → Prop) → Prop := fun x y v H R => ∃ a k, x = .ref a ∧ y = kV k ∧ ∃ kvs, H a = some (.dK kvs) ∧ kvs.length < sizeLine ∧ R (upd H a (.dK (putK kvs k v)))
def sDP (td ty tv : TE) : TS := fun D σ H => tv σ H fun v H1 => td σ H1 fun x H2 => ty σ H2 fun y H3 => rDP x y v H3 fun H4 => D.nx σ H4
def rDI (neg : Bool) : R2 := fun y x H Q => ∃ a k, x = .ref a ∧ y = kV k ∧ ∃ kvs, H a = some (.dK kvs) ∧ Q (.bl (if neg then !(valV kvs k).isSome else (valV kvs k).isSome)) H
section
variable {X : Cx} {o i e value : Expr} {pos pos' tpos : Pos} {td ty tv : TE}
end
section
variable {σ : St} {H : Hp} {Q : VK} {D : Ends} {a : Addr} {v : V} {R : Hp → Prop}
theorem kV_s {k : Key} {x : Str} : (V.str x = kV k) = (k = .inr x) := propext ⟨fun e => by cases k <;> cases e; rfl, fun e => by subst e; rfl⟩
theorem kV_i {k : Key} {x : Int} : (V.int x = kV k) = (k = .inl x) := propext ⟨fun e => by cases k <;> cases e; rfl, fun e => by subst e; rfl⟩
theorem w_dgS {x : Str} : rDG (.ref a) (.str x) H Q = ∃ kvs, H a = some (.dK kvs) ∧ ∃ v, valV kvs (.inr x) = some v ∧ Q v H :=
  propext ⟨fun ⟨a', k, e1, e2, q⟩ => by cases e1; rw [kV_s] at e2; subst e2; exact q, fun q => ⟨a, .inr x, rfl, rfl, q⟩⟩
theorem w_dgI {x : Int} : rDG (.ref a) (.int x) H Q = ∃ kvs, H a = some (.dK kvs) ∧ ∃ v, valV kvs (.inl x) = some v ∧ Q v H :=
  propext ⟨fun ⟨a', k, e1, e2, q⟩ => by cases e1; rw [kV_i] at e2; subst e2; exact q, fun q => ⟨a, .inl x, rfl, rfl, q⟩⟩
theorem w_sDP {td ty tv : TE} : sDP td ty tv D σ H = (tv σ H fun v H1 => td σ H1 fun x H2 => ty σ H2 fun y H3 => rDP x y v H3 fun H4 => D.nx σ H4) := rfl
theorem w_dpS {x : Str} : rDP (.ref a) (.str x) v H R = ∃ kvs, H a = some (.dK kvs) ∧ kvs.length < sizeLine ∧ R (upd H a (.dK (putK kvs (.inr x) v))) :=
  propext ⟨fun ⟨a', k, e1, e2, q⟩ => by cases e1; rw [kV_s] at e2; subst e2; exact q, fun q => ⟨a, .inr x, rfl, rfl, q⟩⟩
theorem w_dpI {x : Int} : rDP (.ref a) (.int x) v H R = ∃ kvs, H a = some (.dK kvs) ∧ kvs.length < sizeLine ∧ R (upd H a (.dK (putK kvs (.inl x) v))) :=
  propext ⟨fun ⟨a', k, e1, e2, q⟩ => by cases e1; rw [kV_i] at e2; subst e2; exact q, fun q => ⟨a, .inl x, rfl, rfl, q⟩⟩
theorem w_dII {neg : Bool} {x : Int} : rDI neg (.int x) (.ref a) H Q = ∃ kvs, H a = some (.dK kvs) ∧ Q (.bl (if neg then !(valV kvs (.inl x)).isSome else (valV kvs (.inl x)).isSome)) H :=
  propext ⟨fun ⟨a', k, e1, e2, q⟩ => by cases e1; rw [kV_i] at e2; subst e2; exact q, fun q => ⟨a, .inl x, rfl, rfl, q⟩⟩
theorem w_disp {trs : List (TE × TE)} : tDisp trs σ H Q = ∀ p, H p = none → tPairs trs σ (upd H p (.dK [])) fun ps H2 => H2 p = some (.dK []) ∧ ∃ kvs : List (Key × V), ps = kvs.map (fun kv => (kV kv.1, kv.2)) ∧ kvs.length ≤ 15 ∧ Q (.ref p) (upd H2 p (.dK (mergeK [] kvs))) := rfl
end
def penKV (a : Addr) (at_ l : Int) : List (Key × V) := [(.inr "script", .ref a), (.inr "at", .int at_), (.inr "left", .int l)]
theorem pen_s {a : Addr} {t l : Int} : valV (penKV a t l) (.inr "script") = some (.ref a) := by unfold penKV; rw [valV_pos rfl]
theorem key_sa : ¬ (Sum.inr "script" : Key) = (Sum.inr "at" : Key) := by decide
theorem key_sl : ¬ (Sum.inr "script" : Key) = (Sum.inr "left" : Key) := by decide
theorem key_al : ¬ (Sum.inr "at" : Key) = (Sum.inr "left" : Key) := by decide
theorem pen_a {a : Addr} {t l : Int} : valV (penKV a t l) (.inr "at") = some (.int t) := by unfold penKV; rw [valV_neg key_sa, valV_pos rfl]
theorem pen_l {a : Addr} {t l : Int} : valV (penKV a t l) (.inr "left") = some (.int l) := by unfold penKV; rw [valV_neg key_sl, valV_neg key_al, valV_pos rfl]
theorem pen_len {a : Addr} {t l : Int} : ((penKV a t l).length < sizeLine) = True := eq_true (Nat.lt_of_lt_of_le (by decide : 3 < 1000) (le_size (by decide)))
theorem pen_pa {a : Addr} {t l x : Int} : putK (penKV a t l) (.inr "at") (.int x) = penKV a x l := by
  unfold putK
  rw [valV_any, pen_a]
  rfl
theorem pen_pl {a : Addr} {t l x : Int} : putK (penKV a t l) (.inr "left") (.int x) = penKV a t x := by
  unfold putK
  rw [valV_any, pen_l]
  rfl
end L2
set_option Elab.async false
set_option linter.all false
set_option maxRecDepth 100000
namespace L2
open PySem PySem.Spec PyProof.Rows
def Itv (K : PySem.W.Frag) (a : Addr) (n : Nat) : It :=
  ⟨fun i H => i < n ∧ ∃ xs, SqL K H a xs ∧ xs.length = n, fun i H x H' => H' = H ∧ ∀ xs, SqL K H a xs → xs.length = n → xs[n - 1 - i]? = some x, fun i H => i = n⟩
def iRev (K : PySem.W.Frag) (ta : TA) : TI := fun σ H R => ta σ H fun vs H1 => ∃ a xs, vs = [.ref a] ∧ SqL K H1 a xs ∧ R (Itv K a xs.length) H1
def ForV (K : PySem.W.Frag) (a : Addr) (n : Nat) (g : TG) (tb : TS) (D : Ends) (σ : St) (H : Hp) : Prop := ∃ W : Nat → Nat → St → Hp → Prop, (∃ m, W 0 m σ H) ∧ ∀ i m σ H, W i m σ H →
  ((Itv K a n).stop i H ∧ D.nx σ H) ∨ ((Itv K a n).go i H ∧ ∃ N : St → Hp → Prop, (∀ σ' H', N σ' H' → ∃ m', m' < m ∧ W (i + 1) m' σ' H') ∧ ∀ x H', (Itv K a n).yld i H x H' → g x σ H' fun σ2 H2 => tb { D with nx := N, ct := N, bk := D.nx } σ2 H2)
section
variable {σ : St} {H : Hp} {D : Ends} {g : TG} {tb : TS} {K : PySem.W.Frag} {a : Addr}
theorem w_forV {ta : TA} : tFor (iRev K ta) g tb D σ H = (ta σ H fun vs H1 => ∃ a xs, vs = [.ref a] ∧ SqL K H1 a xs ∧ ForV K a xs.length g tb D σ H1) := rfl
end
end L2
set_option Elab.async false
set_option linter.all false
set_option maxRecDepth 100000
namespace L2
open PySem
def fs (n : Int) : Int := if n % 2 = 0 then 0 else 2 - n % 4
def val : List Int → Int
  | [] => 0
  | d :: r => d + 2 * val r
end L2
set_option Elab.async false
set_option linter.all false
set_option maxRecDepth 100000
namespace L2
open PySem PySem.Spec PyProof.Rows
def spWhole : Sp := fun vs H Q _ => ∃ i : Int, vs = [.int i] ∧ Q (.bl true) H
theorem atI_m1 {ds : List Int} (h : ds ≠ []) : ∃ d ∈ ds, atI (ds.map V.int) (-1) = some (.int d) ∧ ds.getLast? = some d := by
  obtain ⟨xs, d, rfl⟩ : ∃ xs d, ds = xs ++ [d] := ⟨ds.dropLast, ds.getLast h, (List.dropLast_concat_getLast h).symm⟩
  refine ⟨d, by simp, ?_, by simp⟩
  rw [List.map_append]
  exact atI_last _ _
theorem filterMap_some {α β : Type} (f : α → β) (xs : List α) : xs.filterMap (fun x => some (f x)) = xs.map f := by
  induction xs with
  | nil => rfl
  | cons x r ih => rw [List.filterMap_cons, ih]; rfl
end L2
set_option Elab.async false
set_option linter.all false
set_option maxRecDepth 100000
namespace L2
open PySem
theorem le_big {n : Nat} (h : n ≤ 100000) : n ≤ sizeLine := Nat.le_trans h (by decide)
theorem lt_big {n : Nat} (h : n < 100000) : n < sizeLine := Nat.lt_of_lt_of_le h (by decide)
theorem same_upd {H H' : Hp} {r : Addr} {o : HO} (h : H r = none) (s : Same H H') : Same H (upd H' r o) := fun b u q => by rw [upd_ne (ne_of_none q h)]; exact s b u q
def On2 (vs : List V) (P : Int → Int → Prop) : Prop := ∃ i j, vs = [.int i, .int j] ∧ P i j
theorem w_On2 {i j : Int} {P : Int → Int → Prop} : On2 [.int i, .int j] P = P i j := propext ⟨fun ⟨i', j', e, q⟩ => by cases e; exact q, fun q => ⟨i, j, rfl, q⟩⟩
section
variable {σ : St} {H : Hp} {D : Ends} {g : TG} {tb : TS} {K : PySem.W.Frag} {Q : VK} {nt : Nat} {cs : List Nat} {tt : TT} {te : TE}
theorem w_for2b {ta : TA} : tFor (iRng2 ta) g tb D σ H = (ta σ H fun vs H1 => On2 vs fun i j => (-(2 ^ 62) ≤ i ∧ i < 2 ^ 62 ∧ -(2 ^ 62) ≤ j ∧ j < 2 ^ 62) ∧ ForR i (j - i).toNat g tb D σ H1) := rfl
theorem w_comp2b {ta : TA} : tComp (iRng2 ta) nt cs g tt te σ H Q = (ta σ H fun vs H1 => On2 vs fun i j => (-(2 ^ 62) ≤ i ∧ i < 2 ^ 62 ∧ -(2 ^ 62) ≤ j ∧ j < 2 ^ 62) ∧ CompIt (Itr i (j - i).toNat) nt cs g tt te σ H1 Q) := rfl
end
end L2
set_option Elab.async false
set_option linter.all false
set_option maxRecDepth 100000
namespace L2
open PySem
theorem w_neB {a b : Bool} {H : Hp} {Q : VK} : rNe (.bl a) (.bl b) H Q = Q (.bl (!decide (a = b))) H :=
  propext (by
    have e : decide (V.bl a = V.bl b) = decide (a = b) := by by_cases h : a = b <;> simp [h]
    unfold rNe; rw [e]; exact ⟨fun h => h.2, fun h => ⟨rfl, h⟩⟩)
theorem w_eqB {a b : Bool} {H : Hp} {Q : VK} : rEq (.bl a) (.bl b) H Q = Q (.bl (decide (a = b))) H :=
  propext (by
    have e : decide (V.bl a = V.bl b) = decide (a = b) := by by_cases h : a = b <;> simp [h]
    unfold rEq; rw [e]; exact ⟨fun h => h.2, fun h => ⟨rfl, h⟩⟩)
end L2
set_option Elab.async false
set_option linter.all false
set_option maxRecDepth 100000
namespace L2
open PySem
abbrev SS := List (Int × Int) × List Int
def stp (m : Int) (s : SS) (o : Int) : SS := if (s.1.lookup o).isSome = false ∧ (if o < 0 then -o else o) < 200 then (s.1 ++ [(o, m)], s.2 ++ [o]) else s
def kin (m n : Int) (s : SS) (k : Nat) : SS := stp m (stp m s (n + 1 * 2 ^ k)) (n - 1 * 2 ^ k)
end L2
set_option Elab.async false
set_option linter.all false
set_option maxRecDepth 100000
set_option maxHeartbeats 1000000
namespace L2
open PySem PySem.Spec PyProof.Rows
theorem nmx : (toString "max" ++ toString ".loop" : String) = "max.loop" := by decide
theorem ak_max (a d : Value) : argsOk "max" ⟨[a], [(Str.ofString "default", d)]⟩ := by
  unfold argsOk; kernel_rfl
section
variable {prog : Program} {w : World} {A : Around} {R : Result → Shared → Prop} {I S : Addr} {fp wr : List Addr} {n : Nat} {P : Nat → Value → Prop} {St : Nat → Heap → Prop} {bt : Nat → Nat → Bool} {d : Value}
abbrev lsO (its : Array Value) (c : Nat) : Obj := { cls := .type "list", dict := none, data := .seq its c, slots := #[] }
abbrev mxC (I S : Addr) (d : Value) : Code := .builtin "max.loop" ⟨[.ref I, .none, .ref S], [(Str.ofString "default", d)]⟩
theorem mx_next (W : Walks prog w A.in1 I fp wr n P St) (hc : CmpOf prog w A.in1 .Gt P bt) (hf : S ∉ fp) (k : Nat) : ∀ (j : Nat) (s : Shared) (vb : Value) (c : Nat), n = j + 1 + k → St (j + 1) s.heap → P (argBest bt j) vb → s.heap.get? S = some (lsO #[vb, vb] c) →
    (∀ v h' tk, P (argBest bt (n - 1)) v → (∀ b o, b ∉ wr → b ≠ S → s.heap.get? b = some o → h'.get? b = some o) → R (.ok (.ret v)) { s with heap := h', toks := tk }) → codeAny (model prog w) A (mxC I S d) R s := by
  have hw : S ∉ wr := fun h => hf (W.sub _ h)
  induction k with
  | zero =>
    intro j s vb c hk st pb hS hR
    refine codeAny_builtin PySem.F.entry_max_loop (by rw [Around.under_plainId PySem.F.plain_max_loop _]; show wpAny _ A.in1 (seqItems? (.ref S) >>= _) _ _ s; refine wpAny_bind (wpAny_seqItems hS rfl ?_); show wpAny _ A.in1 (tryCatch (pyNext (.ref I)) _ >>= _) _ _ s; refine wpAny_bind (wpAny_tryCatch (W.done s _ _ (by rw [hk]; exact st) fun h' tk hk' => ?_)); have hS' := hk' S _ hw hS; show wpAny _ A.in1 (updateSeq S (fun _ => #[]) >>= _) _ _ _; refine wpAny_bind ?_; refine wpAny_updateSeq hS' rfl (wpAny_bind (wpAny_letGo (wpAny_pure ?_))); exact hR vb _ tk (by rw [hk]; exact pb) fun b o h1 h2 e => (Heap.get?_update_other _ _ (Ne.symm h2)).trans (hk' b o h1 e))
  | succ k ih =>
    intro j s vb c hk st pb hS hR
    refine codeAny_builtin PySem.F.entry_max_loop (by rw [Around.under_plainId PySem.F.plain_max_loop _]; show wpAny _ A.in1 (seqItems? (.ref S) >>= _) _ _ s; refine wpAny_bind (wpAny_seqItems hS rfl ?_); show wpAny _ A.in1 (tryCatch (pyNext (.ref I)) _ >>= _) _ _ s; exact wpAny_bind (wpAny_tryCatch (W.item (j + 1) s _ _ (by omega) st fun v h' tk hP st' hk' => by
      have hS' := hk' S _ hw hS
      show wpAny _ A.in1 (tryCatch (holding [v, v] (richCompare .Gt v vb >>= _)) _ >>= _) _ _ _
      refine wpAny_bind (wpAny_tryCatch (wpAny_holding (wpAny_bind (hc (j + 1) (argBest bt j) v vb _ _ _ hP pb (wpAny_bind (wpAny_holding (wpAny_truthy_bool (wpAny_bind (wpAny_letGo (wpAny_pure ?_)))))))))) 
      cases hb : bt (j + 1) (argBest bt j) with
      | true =>
        rw [if_pos rfl]
        refine wpAny_bind (wpAny_updateSeq hS' rfl (wpAny_bind (wpAny_letGo ?_)))
        rw [nmx]
        exact wpAny_pure ⟨plainId_quiet PySem.F.plain_max_loop _, ih (j + 1) _ v _ (by omega) (W.frame _ _ _ st' fun b hbf o e => (Heap.get?_update_other _ _ (fun h : S = b => hf (by rw [h]; exact hbf))).trans e) (by rw [argBest, hb]; exact hP) (Heap.get?_update_self _ hS' rfl) fun v' h2 tk2 hP2 hk2 => hR v' h2 tk2 hP2 fun b o h1 h3 e => hk2 b o h1 h3 ((Heap.get?_update_other _ _ (Ne.symm h3)).trans (hk' b o h1 e))⟩
      | false =>
        rw [if_neg (by decide)]
        refine wpAny_bind (wpAny_letGo ?_)
        rw [nmx]
        exact wpAny_pure ⟨plainId_quiet PySem.F.plain_max_loop _, ih (j + 1) _ vb c (by omega) st' (by rw [argBest, hb]; exact pb) hS' fun v' h2 tk2 hP2 hk2 => hR v' h2 tk2 hP2 fun b o h1 h3 e => hk2 b o h1 h3 (hk' b o h1 e)⟩)))
theorem mx_first (W : Walks prog w A.in1 I fp wr n P St) (hc : CmpOf prog w A.in1 .Gt P bt) (hf : S ∉ fp) {s : Shared} {c : Nat} (st : St 0 s.heap) (hS : s.heap.get? S = some (lsO #[] c))
    (h0 : n = 0 → ∀ h' tk, (∀ b o, b ∉ wr → b ≠ S → s.heap.get? b = some o → h'.get? b = some o) → R (.ok (.ret d)) { s with heap := h', toks := tk })
    (hR : 0 < n → ∀ v h' tk, P (argBest bt (n - 1)) v → (∀ b o, b ∉ wr → b ≠ S → s.heap.get? b = some o → h'.get? b = some o) → R (.ok (.ret v)) { s with heap := h', toks := tk }) : codeAny (model prog w) A (mxC I S d) R s := by
  have hw : S ∉ wr := fun h => hf (W.sub _ h)
  refine codeAny_builtin PySem.F.entry_max_loop (by
    rw [Around.under_plainId PySem.F.plain_max_loop _]; show wpAny _ A.in1 (seqItems? (.ref S) >>= _) _ _ s; refine wpAny_bind (wpAny_seqItems hS rfl ?_); show wpAny _ A.in1 (tryCatch (pyNext (.ref I)) _ >>= _) _ _ s
    by_cases hn : n = 0
    · refine wpAny_bind (wpAny_tryCatch (W.done s _ _ (by rw [hn]; exact st) fun h' tk hk' => ?_)); show wpAny _ A.in1 (rule _ >>= _) _ _ _; refine wpAny_bind (wpAny_rule (wpAny_pure (h0 hn h' tk fun b o h1 _ e => hk' b o h1 e)))
    · exact wpAny_bind (wpAny_tryCatch (W.item 0 s _ _ (by omega) st fun v h' tk hP st' hk' => by
        have hS' := hk' S _ hw hS
        show wpAny _ A.in1 (updateSeq S (fun _ => #[v, v]) >>= _) _ _ _
        refine wpAny_bind (wpAny_updateSeq hS' rfl ?_); rw [nmx]
        exact wpAny_pure ⟨plainId_quiet PySem.F.plain_max_loop _, mx_next W hc hf (n - 1) 0 _ v _ (by omega) (W.frame _ _ _ st' fun b hbf o e => (Heap.get?_update_other _ _ (fun h : S = b => hf (by rw [h]; exact hbf))).trans e) hP (Heap.get?_update_self _ hS' rfl) fun v' h2 tk2 hP2 hk2 => hR (by omega) v' h2 tk2 hP2 fun b o h1 h3 e => hk2 b o h1 h3 ((Heap.get?_update_other _ _ (Ne.symm h3)).trans (hk' b o h1 e))⟩)))
end
section
variable {prog : Program} {w : World} {A : Around} {E : Value → Shared → Prop} {s : Shared} {d x : Value}
theorem mx_dflt {Q : Value → Shared → Prop} (h : wpAny (model prog w) A.in1 (pyIter x) (fun it s2 => ∃ I fp wr n P St bt, it = .ref I ∧ Walks prog w A.in1 I fp wr n P St ∧ St 0 s2.heap ∧ (∀ b ∈ fp, b < s2.heap.objs.size) ∧ CmpOf prog w A.in1 .Gt P bt ∧
      (n = 0 → ∀ h' tk, (∀ b o, b ∉ wr → s2.heap.get? b = some o → h'.get? b = some o) → Q d { s2 with heap := h', toks := tk }) ∧ (0 < n → ∀ v h' tk, P (argBest bt (n - 1)) v → (∀ b o, b ∉ wr → s2.heap.get? b = some o → h'.get? b = some o) → Q v { s2 with heap := h', toks := tk })) E s) :
    wpAny (model prog w) A (call (.builtin "max") [x] [(Str.ofString "default", d)]) Q E s := by
  refine kmb_tree PySem.F.kind_max PySem.F.plain_max PySem.F.entry_max (ak_max _ _) ?_
  show wpAny _ A.in1 (Builtin.Builtins.bindParams "max" ["key", "default"] 0 ⟨[], [(Str.ofString "default", d)]⟩ >>= _) _ _ s
  refine wpAny_bind (wpAny_of_eq (show Builtin.Builtins.bindParams "max" ["key", "default"] 0 ⟨[], [(Str.ofString "default", d)]⟩ = pure [none, some d] from rfl) (wpAny_bind (wpAny_pure ?_)))
  refine wpAny_bind (wpAny_mono h (fun it s2 hh => ?_) fun _ _ e => e)
  obtain ⟨I, fp, wr, n, P, St, bt, rfl, W, st, hfp, hc, q0, q1⟩ := hh
  refine wpAny_bind (wpAny_newObj_type ?_)
  have hf : s2.heap.objs.size ∉ fp := fun hm => Nat.lt_irrefl _ (hfp _ hm)
  rw [nmx]
  refine wpAny_pure ⟨plainId_quiet PySem.F.plain_max_loop _, mx_first W hc hf (W.frame _ _ _ st fun b _ o e => Heap.get?_push_of_some _ e) (Heap.get?_push_size _ rfl) (fun hn h' tk hk => q0 hn h' tk fun b o hb e => hk b o hb (Nat.ne_of_lt (Heap.lt_size e)) (Heap.get?_push_of_some _ e)) fun hn v h' tk hP hk => q1 hn v h' tk hP fun b o hb e => hk b o hb (Nat.ne_of_lt (Heap.lt_size e)) (Heap.get?_push_of_some _ e)⟩
end
def mz : List Int → Int
  | [] => 0
  | x :: r => if mz r < x then x else mz r
theorem mz_nonneg : ∀ (ns : List Int), 0 ≤ mz ns
  | [] => Int.le_refl 0
  | x :: r => by
    have := mz_nonneg r
    unfold mz
    split <;> omega
theorem mz_ge {x : Int} : ∀ {ns : List Int}, x ∈ ns → x ≤ mz ns
  | y :: r, h => by
    unfold mz
    rcases List.mem_cons.mp h with e | e
    · subst e
      split <;> omega
    · have := mz_ge e
      split <;> omega
theorem mz_mem : ∀ {ns : List Int}, ns ≠ [] → (∀ n ∈ ns, 0 ≤ n) → mz ns ∈ ns
  | [x], _, h => by
    have := h x List.mem_cons_self
    show (if (0 : Int) < x then x else 0) ∈ [x]
    by_cases hx : 0 < x
    · rw [if_pos hx]; exact List.mem_cons_self
    · rw [if_neg hx, show x = 0 by omega]; exact List.mem_cons_self
  | x :: y :: r, _, h => by
    have ih := mz_mem (ns := y :: r) (by simp) fun n hn => h n (List.mem_cons_of_mem _ hn)
    rw [mz]
    by_cases hx : mz (y :: r) < x
    · rw [if_pos hx]; exact List.mem_cons_self
    · rw [if_neg hx]; exact List.mem_cons_of_mem _ ih
theorem mz_unique {ns : List Int} {v : Int} (hm : v ∈ ns) (hp : ∀ n ∈ ns, 0 ≤ n) (hv : ∀ n ∈ ns, n ≤ v) : v = mz ns := by
  have h1 := mz_ge hm
  have h2 := hv _ (mz_mem (by intro z; rw [z] at hm; cases hm) hp)
  omega
theorem best_val (val : Nat → Int) : ∀ k i, i ≤ k → val i ≤ val (argBest (fun i j => decide (val i > val j)) k)
  | 0, i, h => by
    have : i = 0 := by omega
    subst this
    exact Int.le_refl _
  | k + 1, i, h => by
    rw [argBest]
    by_cases hb : val (k + 1) > val (argBest (fun i j => decide (val i > val j)) k)
    · rw [if_pos (by simpa using hb)]
      by_cases e : i = k + 1
      · subst e; exact Int.le_refl _
      · have := best_val val k i (by omega)
        omega
    · rw [if_neg (by simpa using hb)]
      by_cases e : i = k + 1
      · subst e; omega
      · exact best_val val k i (by omega)
theorem best_le (bt : Nat → Nat → Bool) : ∀ k, argBest bt k ≤ k
  | 0 => Nat.le_refl 0
  | k + 1 => by
    have := best_le bt k
    rw [argBest]
    split <;> omega
section
variable {X : Cx} {e : Expr} {es : List Expr} {kws : List Keyword} {t tk : TA} {p pos : Pos}
theorem best_mz {xs : List (Int × Tok)} {ns : List Int} (e : xs.map (·.1) = ns) (hn : 0 < xs.length) (hp : ∀ n ∈ ns, 0 ≤ n) {v : Value} (hv : (xs.map fun p => Value.int p.1 p.2).toArray[argBest (fun i j => decide (ns.getD i 0 > ns.getD j 0)) (xs.length - 1)]? = some v) : ∃ tk, v = .int (mz ns) tk := by
  have hl : ns.length = xs.length := by rw [← e, List.length_map]
  have hb := best_le (fun i j => decide (ns.getD i 0 > ns.getD j 0)) (xs.length - 1)
  have hm := best_val (fun i => ns.getD i 0) (xs.length - 1)
  generalize argBest (fun i j => decide (ns.getD i 0 > ns.getD j 0)) (xs.length - 1) = k at hv hb hm
  rw [List.getElem?_toArray, List.getElem?_map] at hv
  cases hx : xs[k]? with
  | none => rw [hx] at hv; cases hv
  | some q =>
    rw [hx] at hv
    cases hv
    have hq : ns[k]? = some q.1 := by rw [← e, List.getElem?_map, hx]; rfl
    refine ⟨q.2, ?_⟩
    show Value.int q.1 q.2 = Value.int (mz ns) q.2
    rw [mz_unique (List.mem_of_getElem? hq) hp fun n hn' => ?_]
    obtain ⟨i, hi, rfl⟩ := List.getElem_of_mem hn'
    have := hm i (by omega)
    simp only [List.getD, hq, Option.getD_some] at this
    rw [List.getElem?_eq_getElem hi] at this
    exact this
def rMax1 : List V → Hp → VK → Prop := fun xs H Q => ∃ (p : Addr) (ns : List Int), xs = [.ref p] ∧ H p = some (.lst (ns.map V.int)) ∧ ns ≠ [] ∧ (∀ n ∈ ns, 0 ≤ n) ∧ Q (.int (mz ns)) H
theorem at_int {xs : List (Int × Tok)} {ns : List Int} (e : xs.map (·.1) = ns) (i : Nat) (v : Value) (h : (xs.map fun p => Value.int p.1 p.2).toArray[i]? = some v) : ∃ t, v = .int (ns.getD i 0) t := by
  rw [List.getElem?_toArray, List.getElem?_map] at h
  cases hx : xs[i]? with
  | none => rw [hx] at h; cases h
  | some q =>
    rw [hx] at h
    cases h
    refine ⟨q.2, ?_⟩
    have : ns[i]? = some q.1 := by rw [← e, List.getElem?_map, hx]; rfl
    simp [List.getD, this]
theorem call_max1 (hc : X.calm = true) : CallR X (.builtin "max") rMax1 := by
  intro pins s σ H xs us Q I r h
  obtain ⟨p, ns, rfl, hp, hne, h0, q⟩ := h
  obtain ⟨u, rfl, ru⟩ := Vals.one r
  cases ru
  refine call_max_walk (walk_list hc I hp fun its rv s2 st hfp hne2 W hI => ?_)
  obtain ⟨xs, rfl, e⟩ := vals_intItems rv
  have hx : 0 < xs.length := by
    rw [show xs.length = ns.length by rw [← e, List.length_map]]
    exact List.length_pos_iff.mpr hne
  refine ⟨_, _, _, _, _, _, fun i j => decide (ns.getD i 0 > ns.getD j 0), rfl, W, st, hfp, by simpa using hx, CmpOf.ints_gt (fun i => ns.getD i 0) (at_int e), fun v h' tk hP hk => ?_⟩
  obtain ⟨t, rfl⟩ := best_mz e hx h0 (v := v) (by simpa using hP)
  exact ⟨.int (mz ns), H, hI h' tk hk, ⟨_, rfl⟩, q⟩
def tMaxD (t tk : TA) : TE := fun σ H Q => t σ H fun vs H1 => tk σ H1 fun zs H2 => ∃ (p : Addr) (ns : List Int), vs = [.ref p] ∧ zs = [.int 0] ∧ H2 p = some (.lst (ns.map V.int)) ∧ (∀ n ∈ ns, 0 ≤ n) ∧ Q (.int (mz ns)) H2
theorem pe_maxD (hc : X.calm = true) (hg : Gl X "max") (hm : X.mg "max" = none) (ha : PA X (e :: es) t) (hk : PK X kws tk) (hks : (backToKw pos (keywordEach kws X.env)).filterMap (·.1) = [Str.ofString "default"] := by rfl)
    (he : backTo pos (starEach (e :: es) X.env) = (false, eval e X.env) :: backTo pos (starEach es X.env) := by rfl) (h1 : (backTo pos (starEach (e :: es) X.env)).any (·.1) = false := by rfl)
    (h2 : (backToKw pos (keywordEach kws X.env)).all (·.1.isSome) = true := by rfl) (h3 : (backToKw pos (keywordEach kws X.env)).any (·.1.isNone) = false := by rfl) : PE X (.Call (.Name "max" p) (e :: es) kws pos) (tMaxD t tk) := by
  intro pins s σ H Q I h
  refine wpAny_Call_Name_kw (ld_blt I hg hm bo_max ?_ (by decide) (by decide))
  refine callWith_kw (thn (ha pos pins s σ H _ I h) fun us s1 ⟨vs, H1, I1, r, q⟩ => thn (hk pos pins s1 σ H1 _ I1 q) fun ws s2 ⟨zs, H2, I2, rz, q2⟩ => ?_) he h1 h2 h3
  rw [hks]
  obtain ⟨p, ns, rfl, rfl, hp, h0, q3⟩ := q2
  obtain ⟨u, rfl, ru⟩ := Vals.one r
  cases ru
  obtain ⟨z, rfl, tz, rfl⟩ := Vals.one rz
  refine mx_dflt (walk_list hc I2 hp fun its rv s3 st hfp hne2 W hI => ?_)
  obtain ⟨xs, rfl, e⟩ := vals_intItems rv
  refine ⟨_, _, _, _, _, _, fun i j => decide (ns.getD i 0 > ns.getD j 0), rfl, W, st, hfp, CmpOf.ints_gt (fun i => ns.getD i 0) (at_int e), fun hn h' tk hk => ?_, fun hn v h' tk hP hk => ?_⟩
  · have hx : xs = [] := by simpa using hn
    subst hx
    subst e
    exact ⟨.int 0, H2, hI h' tk hk, ⟨_, rfl⟩, q3⟩
  · have hx : 0 < xs.length := by simpa using hn
    obtain ⟨t, rfl⟩ := best_mz e hx h0 (v := v) (by simpa using hP)
    exact ⟨.int (mz ns), H2, hI h' tk hk, ⟨_, rfl⟩, q3⟩
end
section
variable {K : PySem.W.Frag} {σ : St} {H : Hp} {Q : VK}
theorem w_maxD {t tk : TA} : tMaxD t tk σ H Q = t σ H fun vs H1 => tk σ H1 fun zs H2 => ∃ (p : Addr) (ns : List Int), vs = [.ref p] ∧ zs = [.int 0] ∧ H2 p = some (.lst (ns.map V.int)) ∧ (∀ n ∈ ns, 0 ≤ n) ∧ Q (.int (mz ns)) H2 := rfl
theorem w_sl {r : V → Option Int → Option Int → Hp → VK → Prop} {te : TE} {tl th : TO} : tSl r te tl th σ H Q = te σ H fun x H1 => tl σ H1 fun l H2 => th σ H2 fun u H3 => r x l u H3 Q := rfl
theorem w_noPart {R : Option Int → Hp → Prop} : tNoPart σ H R = R none H := rfl
theorem w_part {t : TE} {R : Option Int → Hp → Prop} : tPart t σ H R = t σ H fun x H1 => ∃ i, x = .int i ∧ R (some i) H1 := rfl
theorem w_slL {a : Addr} {lo hi : Option Int} : rSlL K (.ref a) lo hi H Q = ∃ xs, SqL K H a xs ∧ ∀ p, H p = none → Q (.ref p) (upd H p (.lst (cutV xs lo hi))) :=
  propext ⟨fun ⟨a', xs, e, h, q⟩ => by cases e; exact ⟨xs, h, q⟩, fun ⟨xs, h, q⟩ => ⟨a, xs, rfl, h, q⟩⟩
theorem comp_new {J : It} {xs : List V} {cs : List Nat} {tt : TT} {te : TE} (f : V → Option V) (hz : xs.length ≤ sizeLine)
    (hJ : ∀ H', Same H H' → (∀ i, i < xs.length → J.go i H') ∧ (∀ i x H2, J.yld i H' x H2 → H2 = H' ∧ (i < xs.length → xs[i]? = some x)) ∧ J.stop xs.length H')
    (hb : ∀ x H' (R : Option V → Hp → Prop), x ∈ xs → Same H H' → (∀ H5, Same H' H5 → R (f x) H5) → tt (some x :: capV cs σ) H' fun b H4 => if b = true then te (some x :: capV cs σ) H4 fun y H5 => R (some y) H5 else R none H4)
    (hd : ∀ acc H', H acc = none → Same H H' → H' acc = some (.lst (xs.filterMap f)) → Q (.ref acc) H') : CompIt J 1 cs (gName 0) tt te σ H Q := by
  intro acc hn
  refine ⟨fun i m ys σ' H' => m = xs.length - i ∧ i ≤ xs.length ∧ (∃ o, σ' = o :: capV cs σ) ∧ ys = (xs.take i).filterMap f ∧ H' acc = some (.lst ys) ∧ Same H H', ⟨_, rfl, Nat.zero_le _, ⟨none, rfl⟩, by simp, upd_same, same_new hn _⟩, ?_⟩
  rintro i m ys σ' H' ⟨rfl, hi, ⟨o, rfl⟩, hys, ha, sm⟩
  refine ⟨ha, ?_⟩
  have hl : ys.length ≤ i := by
    rw [hys]
    exact Nat.le_trans (List.length_filterMap_le _ _) (by rw [List.length_take]; omega)
  by_cases hlt : i < xs.length
  · refine .inr ⟨(hJ _ sm).1 i hlt, by omega, fun zs σ2 H2 => (∃ o, σ2 = o :: capV cs σ) ∧ zs = (xs.take (i + 1)).filterMap f ∧ H2 acc = some (.lst zs) ∧ Same H H2, fun zs σ2 H2 ⟨q1, q2, q3, q4⟩ => ⟨xs.length - (i + 1), by omega, rfl, hlt, q1, q2, q3, q4⟩, fun x H2 y => ?_⟩
    obtain ⟨e, hx⟩ := (hJ _ sm).2.1 i x H2 y
    have hx := hx hlt
    subst e
    have tk : xs.take (i + 1) = xs.take i ++ [x] := by rw [List.take_add_one, hx]; rfl
    show tt (some x :: capV cs σ) _ _
    refine hb x _ (fun o H5 => match o with | some y => H5 acc = some (.lst ys) ∧ (∃ o, some x :: capV cs σ = o :: capV cs σ) ∧ ys ++ [y] = (xs.take (i + 1)).filterMap f ∧ upd H5 acc (.lst (ys ++ [y])) acc = some (.lst (ys ++ [y])) ∧ Same H (upd H5 acc (.lst (ys ++ [y]))) | none => (∃ o, some x :: capV cs σ = o :: capV cs σ) ∧ ys = (xs.take (i + 1)).filterMap f ∧ H5 acc = some (.lst ys) ∧ Same H H5) (List.mem_of_getElem? hx) sm fun H5 s5 => ?_
    cases hf : f x with
    | none =>
      refine ⟨⟨_, rfl⟩, ?_, s5 _ _ ha, sm.trans s5⟩
      rw [tk, List.filterMap_append, ← hys]
      simp [hf]
    | some y =>
      refine ⟨s5 _ _ ha, ⟨_, rfl⟩, ?_, upd_same, same_upd hn (sm.trans s5)⟩
      rw [tk, List.filterMap_append, ← hys]
      simp [hf]
  · have e : i = xs.length := by omega
    subst e
    rw [List.take_length] at hys
    subst hys
    exact .inl ⟨(hJ _ sm).2.2, hd acc H' hn sm ha⟩
theorem comp_newL {a : Addr} {xs : List V} {cs : List Nat} {tt : TT} {te : TE} (h : SqL K H a xs) (hz : xs.length ≤ sizeLine) (f : V → Option V)
    (hb : ∀ x H' (R : Option V → Hp → Prop), x ∈ xs → Same H H' → (∀ H5, Same H' H5 → R (f x) H5) → tt (some x :: capV cs σ) H' fun b H4 => if b = true then te (some x :: capV cs σ) H4 fun y H5 => R (some y) H5 else R none H4)
    (hd : ∀ acc H', H acc = none → Same H H' → H' acc = some (.lst (xs.filterMap f)) → Q (.ref acc) H') : CompIt (Itl K a) 1 cs (gName 0) tt te σ H Q :=
  comp_new f hz (fun H' s => by
    have h' := s.seq h
    exact ⟨fun i hi => ⟨xs, xs[i], h', by simp [hi]⟩, fun i x H2 y => ⟨y.1, fun _ => y.2 xs h'⟩, ⟨xs, h', Nat.le_refl _⟩⟩) hb hd
def liI (g : Int → Int) : V → Option V := fun x => match x with
  | .int n => some (.int (g n))
  | _ => none
theorem liI_map (g : Int → Int) : ∀ (ns : List Int), (ns.map V.int).filterMap (liI g) = (ns.map g).map V.int
  | [] => rfl
  | n :: r => by
    rw [List.map_cons, List.filterMap_cons_some (f := liI g) (a := V.int n) (b := V.int (g n)) rfl, liI_map g r]
    rfl
end
end L2
set_option Elab.async false
set_option linter.all false
set_option maxRecDepth 100000
set_option maxHeartbeats 1000000
namespace L2
open PySem PySem.Spec PyProof.Rows
section
variable {σ : St} {H : Hp} {Q : VK} {D : Ends}
theorem w_aug {i : Nat} {te : TE} {ti : TIp} : tAug i te ti D σ H = ∃ x, σ[i]? = some (some x) ∧ te σ H fun y H1 => ti x y H1 fun z H2 => D.nx (σ.set i (some z)) H2 := rfl
theorem w_ipI {f : Int → Int → Int} {i j : Int} : ipI f (.int i) (.int j) H Q = Q (.int (f i j)) H := propext ⟨fun ⟨_, _, e1, e2, q⟩ => by cases e1; cases e2; exact q, fun q => ⟨i, j, rfl, rfl, q⟩⟩
theorem w_dnK : tDNewK σ H Q = ∀ p, H p = none → Q (.ref p) (upd H p (.dK [])) := rfl
end
structure Dd where
  g : Int
  a : Nat
  s : Nat
  b : Nat
  t : Nat
def dnum (ns : List Int) (d : Dd) : Int := ns.getD d.a 0 * 2 ^ d.s + d.g * (ns.getD d.b 0 * 2 ^ d.t)
def ev (ds : List Dd) : List Int := ds.foldl (fun ns d => ns ++ [dnum ns d]) [1]
theorem snoc_ind {α : Type} {p : List α → Prop} (h0 : p []) (hs : ∀ xs x, p xs → p (xs ++ [x])) (xs : List α) : p xs := by
  have : p xs.reverse.reverse := by
    generalize xs.reverse = ys
    induction ys with
    | nil => exact h0
    | cons y r ih => rw [List.reverse_cons]; exact hs _ _ ih
  rwa [List.reverse_reverse] at this
section
variable {X : Cx}
end
section
variable {K : PySem.W.Frag} {H : Hp} {Q : VK}
theorem w_ixT {p : Addr} {i : Int} : rIxT K (.ref p) (.int i) H Q = ∃ xs, SqT K H p xs ∧ ∃ v, atI xs i = some v ∧ Q v H :=
  propext ⟨fun ⟨p', xs, i', v, e1, e2, h, a, q⟩ => by cases e1; cases e2; exact ⟨xs, h, v, a, q⟩, fun ⟨xs, h, v, a, q⟩ => ⟨p, xs, i, v, rfl, rfl, h, a, q⟩⟩
theorem w_eqS {x y : Str} : rEq (.str x) (.str y) H Q = Q (.bl (decide (x = y))) H :=
  propext (by
    have e : decide (V.str x = V.str y) = decide (x = y) := by by_cases h : x = y <;> simp [h]
    unfold rEq
    rw [e]
    exact ⟨fun h => h.2, fun h => ⟨rfl, h⟩⟩)
end
end L2
set_option Elab.async false
set_option linter.all false
set_option maxRecDepth 100000
set_option maxHeartbeats 1000000
namespace L2
open PySem PySem.Spec PyProof.Rows
theorem Inv.turnedL {X : Cx} {pins : List (Addr × Obj)} {σ : St} {H : Hp} {s : Shared} {h' : Heap} {t' : Nat} (ch : List Addr) (I : Inv X pins σ H s) (k : ∀ b o, b ∉ ch → s.heap.get? b = some o → h'.get? b = some o) (hf : ∀ b ∈ ch, FpOk X pins H b) : Inv X pins σ H { s with heap := h', toks := t' } := by
  have nit : ∀ b u, H b = some u → b ∉ ch := fun b u e z => by rw [(hf b z).1] at e; cases e
  refine I.step (g' := s.gens) (d' := s.drawn) (ch := ch) (fun b hb => ?_) (fun b o _ _ hc e _ => k b o hc e) (fun b o _ _ hc e _ => ⟨o.slots, k b o hc e⟩) (fun _ _ _ _ n => n)
    (fun b o hc e => ⟨o, k b o hc e⟩) (fun _ _ e => e) (fun _ _ _ e => e) (fun b ps e => ⟨#[], by rw [e]; simp⟩) (fun m hm => ?_) (fun b u e => ?_) I.bare
  · obtain ⟨f0, f1, f2, f3, f4, f5⟩ := hf b hb
    exact ⟨f3, f1, f4, f5⟩
  · obtain ⟨o, es, ep, ho, r⟩ := hm
    exact ⟨o, es, ep, k _ o (fun z => (hf _ z).2.1 rfl) ho, r⟩
  · refine (I.hok b u e).stay (fun c v hc q => k c v ?_ q) (fun _ q => q) fun _ _ q => q
    rcases hc with z | z
    · rw [z]; exact nit b u e
    · exact nit c _ z
theorem get_push_ne {h : Heap} {b : Addr} {o o' : Obj} (n : b ≠ h.objs.size) (e : (h.push o').get? b = some o) : h.get? b = some o := by
  rw [Heap.get?_push_ne h b o' n] at e
  exact e
def Itz (K : PySem.W.Frag) (a b : Addr) : It :=
  ⟨fun i H => ∃ xs ys, SqL K H a xs ∧ SqL K H b ys ∧ i < xs.length ∧ i < ys.length,
   fun i H x H' => ∃ T u v, x = .ref T ∧ H T = none ∧ H' = upd H T (.tup [u, v]) ∧ (∀ xs, SqL K H a xs → xs[i]? = some u) ∧ (∀ ys, SqL K H b ys → ys[i]? = some v),
   fun i H => ∃ xs ys, SqL K H a xs ∧ SqL K H b ys ∧ (xs.length ≤ i ∨ ys.length ≤ i)⟩
def iZip (K : PySem.W.Frag) (ta : TA) : TI := fun σ H R => ta σ H fun vs H1 => ∃ a b xs ys, vs = [.ref a, .ref b] ∧ SqL K H1 a xs ∧ SqL K H1 b ys ∧ R (Itz K a b) H1
end L2
set_option Elab.async false
set_option linter.all false
set_option maxRecDepth 100000
set_option maxHeartbeats 1000000
namespace L2
open PySem PySem.Spec PyProof.Rows
theorem bo_enumerate : bootBuiltins "enumerate" = some (.type "enumerate") := by decide +kernel
def Ite (K : PySem.W.Frag) (a : Addr) : It :=
  ⟨fun i H => ∃ xs, SqL K H a xs ∧ i < xs.length,
   fun i H x H' => ∃ T u, x = .ref T ∧ H T = none ∧ H' = upd H T (.tup [.int (i : Int), u]) ∧ (∀ xs, SqL K H a xs → xs[i]? = some u),
   fun i H => ∃ xs, SqL K H a xs ∧ xs.length ≤ i⟩
theorem turn_enum {P : Program} {w : World} {K : PySem.W.Frag} {elts : List Expr} {x1 : Nat} {pos : Pos} {e it a : Addr} (hne : e ≠ it) : Turn P w K (.Tuple elts x1 pos) (Ite K a) [e, it] e (fun i h => (∃ old, IsEnum h e it (i : Int) old) ∧ h.IsListIter it a i) where
  mem := by simp
  obj := fun i h st c hc => by
    obtain ⟨⟨old, t1⟩, ⟨o2, e2, c2, d2⟩⟩ := st
    simp only [List.mem_cons, List.not_mem_nil, or_false] at hc
    rcases hc with z | z <;> subst z
    · exact ⟨_, t1, fun v q => by cases q⟩
    · exact ⟨o2, e2, fun v q => by rw [d2] at q; cases q⟩
  keep := fun i h h' st k => by
    obtain ⟨⟨old, t1⟩, t2⟩ := st
    exact ⟨⟨old, k e (by simp) _ t1⟩, t2.at fun o z => k it (by simp) o z⟩
  item := by
    intro X hP hw hK hc i pins s σ H E I hf st hg
    subst hP hw hK
    obtain ⟨xs, hq, hi⟩ := hg
    obtain ⟨its, rv, p, hz⟩ := I.list hq
    obtain ⟨u, hu, ru⟩ := rv.get (List.getElem?_eq_getElem hi)
    obtain ⟨⟨old, t1⟩, t2⟩ := st
    have hl1 : e < s.heap.objs.size := Heap.lt_size t1
    have hl2 : it < s.heap.objs.size := by obtain ⟨o, z, _⟩ := t2; exact Heap.lt_size z
    refine wpAny_pyNext_enum_item t1 t2 p.isList (x := u) (by simpa using hu) hne fun h' a1 a2 a3 a4 a5 => ⟨_, rfl, ?_⟩
    refine wpAny_letOwnedTupleGo_enum (s := { s with heap := h', toks := s.toks + 1 }) a1 fun h2 b1 b2 => ?_
    have hT0 : H s.heap.objs.size = none := I.hok.fresh (Nat.le_refl _)
    have I1 : Inv X pins σ (upd H s.heap.objs.size (.tup [.int (i : Int), xs[i]])) { s with heap := s.heap.push { cls := .type "tuple", data := .seq [Value.int (i : Int) s.toks, u].toArray } } :=
      I.laid (t' := s.toks) (fun b o z => Heap.get?_push_of_some _ z) (Nat.le_refl _) (show ObjOk X.prog X.w _ _ _ (.tup [.int (i : Int), xs[i]]) from ⟨le_size (by show 2 ≤ 1000; decide), [Value.int (i : Int) s.toks, u], .cons ⟨_, rfl⟩ (.cons ru .nil), IsTup.new _ _⟩)
    have fpk : ∀ c ∈ [e, it], c ≠ s.heap.objs.size := fun c hc => by
      simp only [List.mem_cons, List.not_mem_nil, or_false] at hc
      rcases hc with z | z <;> subst z <;> exact Nat.ne_of_lt (by assumption)
    have fp2 : ∀ c ∈ [e, it], FpOk X pins (upd H s.heap.objs.size (.tup [.int (i : Int), xs[i]])) c := fun c hc => by
      obtain ⟨f0, f⟩ := hf c hc
      exact ⟨by rw [upd_ne (fpk c hc)]; exact f0, f⟩
    have I2 : Inv X pins σ (upd H s.heap.objs.size (.tup [.int (i : Int), xs[i]])) { s with heap := h2, toks := s.toks + 1 } := by
      refine Inv.turnedL (s := { s with heap := s.heap.push { cls := .type "tuple", data := .seq [Value.int (i : Int) s.toks, u].toArray } }) (t' := s.toks + 1) (h' := h2) [e, it] I1 (fun b o hb z => ?_) fp2
      simp only [List.mem_cons, List.not_mem_nil, or_false, not_or] at hb
      obtain ⟨n1, n2⟩ := hb
      refine (b2.2 b n1).trans ?_
      by_cases hT : b = s.heap.objs.size
      · subst hT
        rw [Heap.get?_push_size _ rfl] at z
        rw [← z]
        exact a3
      · exact a5 b o n1 n2 (get_push_ne hT z)
    have e1 : ((i : Int) + 1) = ((i + 1 : Nat) : Int) := by omega
    rw [e1] at b1
    refine ⟨.ref s.heap.objs.size, _, I2, rfl, ⟨_, xs[i], rfl, hT0, rfl, fun zs h => ?_⟩, ⟨⟨_, b1⟩, a2.at fun o z => (b2.2 _ hne.symm).trans z⟩, fun c hc => (fp2 c hc).1⟩
    rw [I.list_inj h hq]; exact List.getElem?_eq_getElem hi
  done := by
    intro X hP hw hK hc i pins s σ H E I hf st hg
    subst hP hw hK
    obtain ⟨xs, hq, hend⟩ := hg
    obtain ⟨its, rv, p, hz⟩ := I.list hq
    obtain ⟨⟨old, t1⟩, t2⟩ := st
    refine wpAny_pyNext_enum_end (I.ok.hd hc) t1 t2 p.isList (by simp [← rv.length, hend]) fun h' a7 => ⟨rfl, ?_⟩
    refine Inv.turnedL (t' := s.toks) (h' := h') [it] I (fun b o hb z => a7 b o (by simpa using hb) z) (fun c hc => hf c (by simp only [List.mem_cons, List.not_mem_nil, or_false] at hc ⊢; exact .inr hc))
  self := fun _ i s _ _ st h => by
    obtain ⟨⟨old, t1⟩, t2⟩ := st
    exact wpAny_pyIter_enum t1 h
def iEnum (K : PySem.W.Frag) (ta : TA) : TI := fun σ H R => ta σ H fun vs H1 => ∃ a xs, vs = [.ref a] ∧ SqL K H1 a xs ∧ R (Ite K a) H1
theorem pi_enum {X : Cx} {elts : List Expr} {x1 : Nat} {tpos : Pos} {a : Expr} {ta : TA} {p pos : Pos} (hg : Gl X "enumerate") (hm : X.mg "enumerate" = none) (ha : PA X [a] ta) (hs : starEach [a] X.env = [(false, eval a X.env)] := by rfl) :
    PI X (.Tuple elts x1 tpos) (.Call (.Name "enumerate" p) [a] [] pos) (iEnum X.K ta) := by
  intro pins s σ H R I h
  refine Call_ (ld_blt I hg hm bo_enumerate (PyProof.Rows.callWith_type1 (thn (ha pos pins s σ H _ I h) fun us s1 ⟨vs, H1, I1, r1, q1⟩ => ?_) hs rfl))
  obtain ⟨l1, xs, e, hq, q⟩ := q1
  subst e
  obtain ⟨u1, rfl, ru1⟩ := vals1 r1
  cases (show u1 = Value.ref l1 from ru1)
  obtain ⟨its, rv, pl, hz⟩ := I1.list hq
  refine call_enumerate_list pl.isList fun h' z1 z2 z3 z4 => ?_
  have I2 : Inv X pins σ H1 { s1 with heap := h' } := I1.kept (t' := s1.toks) z4
  refine wpAny_pyIter_enum z1 ?_
  refine ⟨s1.heap.objs.size + 1, _, _, _, H1, rfl, I2, turn_enum (by show ¬ @Eq Nat _ _; omega), ⟨⟨_, z1⟩, z2⟩, fun c hc => ?_, q⟩
  have hle : s1.heap.objs.size ≤ c := by
    simp only [List.mem_cons, List.not_mem_nil, or_false] at hc
    rcases hc with z | z <;> subst z <;> (show @LE.le Nat _ _ _; omega)
  exact I1.fpOk hle (I1.hok.fresh hle)
section
variable {K : PySem.W.Frag} {σ : St} {H : Hp} {Q : VK}
theorem comp_any {J : It} {nt : Nat} {cs : List Nat} {g : TG} {tt : TT} {te : TE} (n : Nat) (Pv : Addr → Nat → List V → Hp → Prop) (hz : n ≤ sizeLine)
    (hgo : ∀ acc i ys H', i < n → Pv acc i ys H' → J.go i H') (hst : ∀ acc ys H', Pv acc n ys H' → J.stop n H')
    (h0 : ∀ acc, H acc = none → Pv acc 0 [] (upd H acc (.lst []))) (hacc : ∀ acc i ys H', Pv acc i ys H' → H' acc = some (.lst ys) ∧ ys.length ≤ i)
    (hs : ∀ acc i ys H' (ts : St) x H2 (N : List V → St → Hp → Prop), H acc = none → i < n → Pv acc i ys H' → J.yld i H' x H2 → ts.length = nt → (∀ zs (ts' : St) H3, ts'.length = nt → Pv acc (i + 1) zs H3 → N zs (ts' ++ capV cs σ) H3) →
      g x (ts ++ capV cs σ) H2 fun σ3 H3 => tt σ3 H3 fun b H4 => if b = true then te σ3 H4 fun y H5 => H5 acc = some (.lst ys) ∧ N (ys ++ [y]) σ3 (upd H5 acc (.lst (ys ++ [y]))) else N ys σ3 H4)
    (hd : ∀ acc ys H', H acc = none → Pv acc n ys H' → Q (.ref acc) H') : CompIt J nt cs g tt te σ H Q := by
  intro acc hn
  refine ⟨fun i m ys σ' H' => m = n - i ∧ i ≤ n ∧ (∃ ts : St, ts.length = nt ∧ σ' = ts ++ capV cs σ) ∧ Pv acc i ys H', ⟨_, rfl, Nat.zero_le _, ⟨List.replicate nt none, List.length_replicate, rfl⟩, h0 acc hn⟩, ?_⟩
  rintro i m ys σ' H' ⟨rfl, hi, ⟨ts, hts, rfl⟩, p⟩
  obtain ⟨ha, hl⟩ := hacc acc i ys H' p
  refine ⟨ha, ?_⟩
  by_cases hlt : i < n
  · refine .inr ⟨hgo acc i ys H' hlt p, by omega, fun zs σ2 H2 => (∃ ts : St, ts.length = nt ∧ σ2 = ts ++ capV cs σ) ∧ Pv acc (i + 1) zs H2, fun zs σ2 H2 ⟨q1, q2⟩ => ⟨n - (i + 1), by omega, rfl, hlt, q1, q2⟩, fun x H2 y => ?_⟩
    exact hs acc i ys H' ts x H2 (fun zs σ2 H2 => (∃ ts : St, ts.length = nt ∧ σ2 = ts ++ capV cs σ) ∧ Pv acc (i + 1) zs H2) hn hlt p y hts fun zs ts' H3 h1 h2 => ⟨⟨ts', h1, rfl⟩, h2⟩
  · have e : i = n := by omega
    subst e
    exact .inl ⟨hst acc ys H' p, hd acc ys H' hn p⟩
theorem w_compE {ta : TA} {nt : Nat} {cs : List Nat} {g : TG} {tt : TT} {te : TE} : tComp (iEnum K ta) nt cs g tt te σ H Q = (ta σ H fun vs H1 => ∃ a xs, vs = [.ref a] ∧ SqL K H1 a xs ∧ CompIt (Ite K a) nt cs g tt te σ H1 Q) := rfl
theorem w_compZ {ta : TA} {nt : Nat} {cs : List Nat} {g : TG} {tt : TT} {te : TE} : tComp (iZip K ta) nt cs g tt te σ H Q = (ta σ H fun vs H1 => ∃ a b xs ys, vs = [.ref a, .ref b] ∧ SqL K H1 a xs ∧ SqL K H1 b ys ∧ CompIt (Itz K a b) nt cs g tt te σ H1 Q) := rfl
end
def Itr3 (lo c : Int) (n : Nat) : It := ⟨fun i _ => i < n, fun i H x H' => H' = H ∧ x = .int (lo + i * c), fun i _ => n ≤ i⟩
theorem turn_range3 {P : Program} {w : World} {K : PySem.W.Frag} {tg : Expr} (it : Addr) (lo c : Int) (n : Nat) : Turn P w K tg (Itr3 lo c n) [it] it (fun i h => IsRangeIter h it (lo + (i : Nat) * c) ((n : Int) - (i : Nat)) c) where
  mem := by simp
  obj := fun i h st b hb => by
    have e : b = it := by simpa using hb
    subst e
    exact ⟨_, st, fun v z => by
      have z' : Data.fields _ = Data.cell v := z
      cases z'⟩
  keep := fun i h h' st k => k it (by simp) _ st
  item := by
    intro X hP hw hK hc i pins s σ H E I hf st hg
    subst hP hw hK
    obtain ⟨f0, f1, f2, f3, f4, f5⟩ := hf it (by simp)
    have W := Walks.range (prog := X.prog) (w := X.w) (I.ok.hd hc) it lo c n
    refine W.item i s _ _ hg st fun v h' tk hv st' kk => ?_
    obtain ⟨t, rfl⟩ := hv
    have I1 : Inv X pins σ H { s with heap := h', toks := tk } := I.turned (fun b o hb e => kk b o (by simpa using hb) e) f0 f1 f3 f4 f5
    exact ⟨_, rfl, go_of (s := { s with heap := h', toks := tk }) (n := "range_iterator") st' rfl rfl (by decide) ⟨.int (lo + i * c), H, I1, ⟨t, rfl⟩, ⟨rfl, rfl⟩, st', fun b hb => (hf b hb).1⟩⟩
  done := by
    intro X hP hw hK hc i pins s σ H E I hf st hg
    subst hP hw hK
    obtain ⟨f0, f1, f2, f3, f4, f5⟩ := hf it (by simp)
    exact wpAny_pyNext_range_end (I.ok.hd hc) st (by have : n ≤ i := hg; omega) fun h' eb => ⟨rfl, I.turned (t' := s.toks) (fun b o hb e => eb b o hb e) f0 f1 f3 f4 f5⟩
  self := fun _ _ _ _ _ st h => wpAny_pyIter_rangeiter st h
def stepN (lo hi c : Int) : Nat := (Builtin.Range.rangeSize lo hi c).toNat
def iRng3 (ta : TA) : TI := fun σ H R => ta σ H fun vs H1 => ∃ i j c : Int, vs = [.int i, .int j, .int c] ∧ (0 ≤ i ∧ i < 2 ^ 31 ∧ -1 ≤ j ∧ j < 2 ^ 31 ∧ c = 2) ∧ R (Itr3 i c (stepN i j c)) H1
def ForR3 (lo c : Int) (n : Nat) (g : TG) (tb : TS) (D : Ends) (σ : St) (H : Hp) : Prop := ∃ W : Nat → Nat → St → Hp → Prop, (∃ m, W 0 m σ H) ∧ ∀ i m σ H, W i m σ H →
  ((Itr3 lo c n).stop i H ∧ D.nx σ H) ∨ ((Itr3 lo c n).go i H ∧ ∃ N : St → Hp → Prop, (∀ σ' H', N σ' H' → ∃ m', m' < m ∧ W (i + 1) m' σ' H') ∧ ∀ x H', (Itr3 lo c n).yld i H x H' → g x σ H' fun σ2 H2 => tb { D with nx := N, ct := N, bk := D.nx } σ2 H2)
section
variable {σ : St} {H : Hp} {D : Ends} {g : TG} {tb : TS} {lo c : Int} {n : Nat}
theorem w_for3 {ta : TA} : tFor (iRng3 ta) g tb D σ H = (ta σ H fun vs H1 => ∃ i j c : Int, vs = [.int i, .int j, .int c] ∧ (0 ≤ i ∧ i < 2 ^ 31 ∧ -1 ≤ j ∧ j < 2 ^ 31 ∧ c = 2) ∧ ForR3 i c (stepN i j c) g tb D σ H1) := rfl
theorem forR3 (Pv : Nat → St → Hp → Prop) (h0 : Pv 0 σ H) (hs : ∀ i σ H (N : St → Hp → Prop), i < n → Pv i σ H → (∀ σ' H', Pv (i + 1) σ' H' → N σ' H') → g (.int (lo + i * c)) σ H fun σ2 H2 => tb { D with nx := N, ct := N, bk := D.nx } σ2 H2)
    (hd : ∀ σ H, Pv n σ H → D.nx σ H) : ForR3 lo c n g tb D σ H := by
  refine ⟨fun i m σ H => m = n - i ∧ i ≤ n ∧ Pv i σ H, ⟨n, by simp, Nat.zero_le _, h0⟩, ?_⟩
  rintro i m σ H ⟨rfl, hi, p⟩
  by_cases hlt : i < n
  · refine .inr ⟨hlt, Pv (i + 1), fun σ' H' p' => ⟨n - (i + 1), by omega, rfl, hlt, p'⟩, fun x H' y => ?_⟩
    obtain ⟨e, rfl⟩ := y
    subst e
    exact hs i σ _ (Pv (i + 1)) hlt p fun _ _ z => z
  · have e : i = n := by omega
    subst e
    exact .inl ⟨Nat.le_refl _, hd σ H p⟩
end
end L2
set_option Elab.async false
set_option linter.all false
set_option maxRecDepth 100000
set_option maxHeartbeats 1000000
namespace L2
open PySem PySem.Spec
theorem get_snoc {α : Type} {xs : List α} {x y : α} {i : Nat} (h : (xs ++ [x])[i]? = some y) : (i < xs.length ∧ xs[i]? = some y) ∨ (i = xs.length ∧ y = x) := by
  by_cases hi : i < xs.length
  · rw [List.getElem?_append_left hi] at h
    exact .inl ⟨hi, h⟩
  · rw [List.getElem?_append_right (by omega)] at h
    have hz : i - xs.length = 0 := by
      cases hk : i - xs.length with
      | zero => rfl
      | succ m => rw [hk] at h; simp at h
    rw [hz] at h
    cases h
    exact .inr ⟨by omega, rfl⟩
theorem abs_le_of {a b : Int} {m n : Nat} {g h : Int} (hg : g = 1 ∨ g = -1) (hh : h = 1 ∨ h = -1) (ha : a.natAbs ≤ m) (hb : b.natAbs ≤ n) : (g * a + h * b).natAbs ≤ m + n := by
  rcases hg with e | e <;> rcases hh with e2 | e2 <;> subst e <;> subst e2 <;> omega
end L2
set_option Elab.async false
set_option linter.all false
set_option maxRecDepth 100000
set_option maxHeartbeats 1000000
namespace L2
open PySem PySem.Spec PyProof.Rows
def gTupK (K : PySem.W.Frag) (n : Nat) (t : TGs) : TG := gTup K n t
section
variable {K : PySem.W.Frag} {σ : St} {H : Hp} {R : St → Hp → Prop}
theorem w_gTupK {n : Nat} {t : TGs} {a : Addr} : gTupK K n t (.ref a) σ H R = ∃ xs, SqT K H a xs ∧ xs.length = n ∧ t xs σ H R :=
  propext ⟨fun ⟨a', xs, e, h, l, q⟩ => by cases e; exact ⟨xs, h, l, q⟩, fun ⟨xs, h, l, q⟩ => ⟨a, xs, rfl, h, l, q⟩⟩
end
end L2
set_option Elab.async false
set_option linter.all false
set_option maxRecDepth 100000
set_option maxHeartbeats 1000000
namespace L2
open PySem PySem.Spec PyProof.Rows
section
variable {X : Cx} {pins : List (Addr × Obj)} {σ : St} {H : Hp} {s : Shared} {p : Addr} {xs : List V}
def gLst (n : Nat) (t : TGs) : TG := fun v σ H Q => ∃ a xs, v = .ref a ∧ H a = some (.lst xs) ∧ xs.length = n ∧ t xs σ H Q
end
section
variable {σ : St} {H : Hp} {R : St → Hp → Prop}
theorem w_gLst {n : Nat} {t : TGs} {a : Addr} : gLst n t (.ref a) σ H R = ∃ xs, H a = some (.lst xs) ∧ xs.length = n ∧ t xs σ H R :=
  propext ⟨fun ⟨a', xs, e, h, l, q⟩ => by cases e; exact ⟨xs, h, l, q⟩, fun ⟨xs, h, l, q⟩ => ⟨a, xs, rfl, h, l, q⟩⟩
end
def ForE (K : PySem.W.Frag) (a : Addr) (g : TG) (tb : TS) (D : Ends) (σ : St) (H : Hp) : Prop := ∃ W : Nat → Nat → St → Hp → Prop, (∃ m, W 0 m σ H) ∧ ∀ i m σ H, W i m σ H →
  ((Ite K a).stop i H ∧ D.nx σ H) ∨ ((Ite K a).go i H ∧ ∃ N : St → Hp → Prop, (∀ σ' H', N σ' H' → ∃ m', m' < m ∧ W (i + 1) m' σ' H') ∧ ∀ x H', (Ite K a).yld i H x H' → g x σ H' fun σ2 H2 => tb { D with nx := N, ct := N, bk := D.nx } σ2 H2)
section
variable {K : PySem.W.Frag} {σ : St} {H : Hp} {D : Ends} {g : TG} {tb : TS} {a : Addr}
theorem w_forE {ta : TA} : tFor (iEnum K ta) g tb D σ H = (ta σ H fun vs H1 => ∃ a xs, vs = [.ref a] ∧ SqL K H1 a xs ∧ ForE K a g tb D σ H1) := rfl
theorem forE {xs : List V} (Pv : Nat → St → Hp → Prop) (h0 : Pv 0 σ H) (hl : ∀ i σ H, i ≤ xs.length → Pv i σ H → SqL K H a xs)
    (hs : ∀ i x T σ H (N : St → Hp → Prop), xs[i]? = some x → H T = none → Pv i σ H → (∀ σ' H', Pv (i + 1) σ' H' → N σ' H') → g (.ref T) σ (upd H T (.tup [.int (i : Int), x])) fun σ2 H2 => tb { D with nx := N, ct := N, bk := D.nx } σ2 H2)
    (hd : ∀ σ H, Pv xs.length σ H → D.nx σ H) : ForE K a g tb D σ H := by
  refine ⟨fun i m σ H => m = xs.length - i ∧ i ≤ xs.length ∧ Pv i σ H, ⟨_, rfl, Nat.zero_le _, h0⟩, ?_⟩
  rintro i m σ H ⟨rfl, hi, p⟩
  have q := hl i σ H hi p
  by_cases hlt : i < xs.length
  · refine .inr ⟨⟨xs, q, hlt⟩, Pv (i + 1), fun σ' H' p' => ⟨xs.length - (i + 1), by omega, rfl, hlt, p'⟩, fun x H' y => ?_⟩
    obtain ⟨T, u, rfl, hT, rfl, hu⟩ := y
    exact hs i u T σ H (Pv (i + 1)) (hu xs q) hT p fun _ _ z => z
  · have e : i = xs.length := by omega
    subst e
    exact .inl ⟨⟨xs, q, Nat.le_refl _⟩, hd σ H p⟩
end
end L2
set_option Elab.async false
set_option linter.all false
set_option maxRecDepth 100000
set_option maxHeartbeats 1000000
namespace L2
open PySem PySem.Spec
def spLower : Sp := fun vs H Q _ => ∃ (l : Addr) (xs : List Int), vs = [.ref l] ∧ H l = some (.lst (xs.map V.int)) ∧ xs.length ≤ 100 ∧ ∀ (f : Int) H', 0 ≤ f → f ≤ 40 → (∀ x ∈ xs, (2 : Int) ^ f.toNat ∣ x) → Same H H' → Q (.int f) H'
def mvI (s n : Int) : Int := n * 2 ^ (if 0 > s then (0 : Int) else s).toNat / 2 ^ (if 0 > 0 - s then (0 : Int) else 0 - s).toNat
def spLMoved : Sp := fun vs H Q _ => ∃ (l : Addr) (xs : List Int) (s : Int), vs = [.ref l, .int s] ∧ H l = some (.lst (xs.map V.int)) ∧ xs.length ≤ 100 ∧ (∀ x ∈ xs, x.natAbs < 2 ^ 9000) ∧ -40 ≤ s ∧ s ≤ 40 ∧ ∀ r H', H r = none → Same H H' → H' r = some (.lst ((xs.map (mvI s)).map V.int)) → Q (.ref r) H'
end L2
set_option Elab.async false
set_option linter.all false
set_option maxRecDepth 100000
set_option maxHeartbeats 1000000
namespace L2
open PySem PySem.Spec
structure Wd where
  w : Str
  a : Nat
  s : Int
  b : Nat
  t : Int
structure Go where
  th : Nat
  sh : Int
  sg : Int
def wTup (d : Wd) : List V := [.str d.w, .int d.a, .int d.s, .int d.b, .int d.t]
def gTp (g : Go) : List V := [.int g.th, .int g.sh, .int g.sg]
structure HTs {α : Type} (f : α → List V) (H : Hp) (vs : List V) (xs : List α) : Prop where
  len : vs.length = xs.length
  at_ : ∀ (k : Nat) (x : α), xs[k]? = some x → ∃ p : Addr, vs[k]? = some (.ref p) ∧ H p = some (.tup (f x))
section
variable {α : Type} {f : α → List V} {H H' : Hp} {vs us : List V} {xs : List α} {l : Addr}
theorem HTs.same (h : HTs f H vs xs) (s : Same H H') : HTs f H' vs xs := ⟨h.len, fun k d e => by
  obtain ⟨x, e1, e2⟩ := h.at_ k d e
  exact ⟨x, e1, s _ _ e2⟩⟩
theorem HTs.chgL (h : HTs f H vs xs) (hl : H l = some (.lst us)) (c : Chg l H H') : HTs f H' vs xs := ⟨h.len, fun k d e => by
  obtain ⟨x, e1, e2⟩ := h.at_ k d e
  exact ⟨x, e1, c _ _ (ne_of e2 hl (by intro z; cases z)) e2⟩⟩
theorem HTs.snoc {x : α} {p : Addr} (h : HTs f H vs xs) (hx : H p = some (.tup (f x))) : HTs f H (vs ++ [.ref p]) (xs ++ [x]) := by
  refine ⟨by simp [h.len], fun k e he => ?_⟩
  rcases get_snoc he with ⟨hk, z⟩ | ⟨hk, rfl⟩
  · obtain ⟨y, e1, e2⟩ := h.at_ k e z
    exact ⟨y, by rw [List.getElem?_append_left (by rw [h.len]; exact hk)]; exact e1, e2⟩
  · refine ⟨p, ?_, hx⟩
    rw [List.getElem?_append_right (by rw [h.len]; omega), h.len, hk, Nat.sub_self]
    rfl
theorem hts_nil : HTs f H [] [] := ⟨rfl, fun k d h => by simp at h⟩
end
structure HRs (H : Hp) (ex : List Addr) (vs : List V) (rs : List (List Int)) : Prop where
  len : vs.length = rs.length
  at_ : ∀ (k : Nat) (r : List Int), rs[k]? = some r → ∃ p : Addr, vs[k]? = some (.ref p) ∧ H p = some (.lst (r.map V.int)) ∧ ∀ e ∈ ex, p ≠ e
section
variable {H H' : Hp} {ex : List Addr} {vs : List V} {rs : List (List Int)} {l : Addr}
theorem HRs.same (h : HRs H ex vs rs) (s : Same H H') : HRs H' ex vs rs := ⟨h.len, fun k d e => by
  obtain ⟨x, e1, e2, e3⟩ := h.at_ k d e
  exact ⟨x, e1, s _ _ e2, e3⟩⟩
theorem HRs.chg (h : HRs H ex vs rs) (hl : l ∈ ex) (c : Chg l H H') : HRs H' ex vs rs := ⟨h.len, fun k d e => by
  obtain ⟨x, e1, e2, e3⟩ := h.at_ k d e
  exact ⟨x, e1, c _ _ (e3 l hl) e2, e3⟩⟩
theorem HRs.new (h : HRs H ex vs rs) (hl : H l = none) : HRs H (l :: ex) vs rs := ⟨h.len, fun k d e => by
  obtain ⟨x, e1, e2, e3⟩ := h.at_ k d e
  refine ⟨x, e1, e2, fun z hz => ?_⟩
  rcases List.mem_cons.mp hz with e | e
  · subst e; exact ne_of_none e2 hl
  · exact e3 z e⟩
theorem HRs.snoc {r : List Int} {p : Addr} (h : HRs H ex vs rs) (hx : H p = some (.lst (r.map V.int))) (he : ∀ e ∈ ex, p ≠ e) : HRs H ex (vs ++ [.ref p]) (rs ++ [r]) := by
  refine ⟨by simp [h.len], fun k e he2 => ?_⟩
  rcases get_snoc he2 with ⟨hk, z⟩ | ⟨hk, rfl⟩
  · obtain ⟨y, e1, e2⟩ := h.at_ k e z
    exact ⟨y, by rw [List.getElem?_append_left (by rw [h.len]; exact hk)]; exact e1, e2⟩
  · refine ⟨p, ?_, hx, he⟩
    rw [List.getElem?_append_right (by rw [h.len]; omega), h.len, hk, Nat.sub_self]
    rfl
theorem hrs_nil : HRs H ex [] [] := ⟨rfl, fun k d h => by simp at h⟩
end
def RB (b : Nat) (rs : List (List Int)) : Prop := ∀ r ∈ rs, r.length ≤ 12 ∧ ∀ n ∈ r, n.natAbs ≤ 2 ^ b
theorem RB.snoc {b c : Nat} {rs : List (List Int)} {r : List Int} (h : RB b rs) (hc : b ≤ c) (hl : r.length ≤ 12) (hr : ∀ n ∈ r, n.natAbs ≤ 2 ^ c) : RB c (rs ++ [r]) := fun q hq => by
  rcases List.mem_append.mp hq with z | z
  · exact ⟨(h q z).1, fun n hn => Nat.le_trans ((h q z).2 n hn) (Nat.pow_le_pow_right (by decide) hc)⟩
  · rw [List.mem_singleton.mp z]; exact ⟨hl, hr⟩
theorem mvI_bound {s n : Int} {b : Nat} (h0 : -40 ≤ s) (h1 : s ≤ 40) (h : n.natAbs ≤ 2 ^ b) : (mvI s n).natAbs ≤ 2 ^ (b + 40) := by
  unfold mvI
  generalize hj : (if 0 > s then (0 : Int) else s).toNat = j
  have hj40 : j ≤ 40 := by rw [← hj]; split <;> omega
  generalize (if 0 > 0 - s then (0 : Int) else 0 - s).toNat = k
  have p := pow_pos2 k
  have h2 : (n * 2 ^ j).natAbs ≤ 2 ^ (b + 40) := by
    rw [Int.natAbs_mul, Int.natAbs_pow]
    refine Nat.le_trans (Nat.mul_le_mul h (Nat.pow_le_pow_right (by decide) hj40 : 2 ^ j ≤ 2 ^ 40)) ?_
    rw [← Nat.pow_add]
    exact Nat.le_refl _
  generalize n * 2 ^ j = x at h2
  refine Nat.le_trans ?_ h2
  have : (x / 2 ^ k).natAbs ≤ x.natAbs := Int.natAbs_ediv_le_natAbs x (2 ^ k)
  exact this
structure WebOk (ins : Nat) (ds : List Wd) (gs : List Go) : Prop where
  i1 : 1 ≤ ins
  i2 : ins ≤ 12
  dk : ∀ (k : Nat) (d : Wd), ds[k]? = some d → d.a < ins + k ∧ d.b < ins + k ∧ (d.w = "sum" ∨ d.w = "less")
  gk : ∀ g ∈ gs, g.th < ins + ds.length
  dl : ds.length ≤ 60
  gl : gs.length ≤ 12
end L2
set_option Elab.async false
set_option linter.all false
set_option maxRecDepth 100000
set_option maxHeartbeats 1000000
namespace L2
open PySem PySem.Spec PyProof.Rows
theorem cf_mem : ∀ (names : List (Str × NameKind)) (n : Nat) (acc : List (Str × Addr)) (p : Str × Addr), p ∈ cellsFrom n names acc → p ∈ acc ∨ ((p.1, NameKind.cell) ∈ names ∧ n ≤ p.2)
  | [], _, _, _, h => .inl h
  | (y, k) :: r, n, acc, p, h => by
    unfold cellsFrom at h
    by_cases hk : (k == .cell) = true
    · rw [if_pos hk] at h
      have ek : k = .cell := by simpa using hk
      subst ek
      rcases cf_mem r (n + 1) _ p h with z | ⟨z, l⟩
      · rcases List.mem_cons.mp z with e | e
        · subst e
          exact .inr ⟨List.mem_cons_self, Nat.le_refl _⟩
        · exact .inl e
      · exact .inr ⟨List.mem_cons_of_mem _ z, Nat.le_of_succ_le l⟩
    · rw [if_neg hk] at h
      rcases cf_mem r n acc p h with z | ⟨z, l⟩
      · exact .inl z
      · exact .inr ⟨List.mem_cons_of_mem _ z, l⟩
theorem cf_inj : ∀ (names : List (Str × NameKind)) (n lo : Nat) (acc : List (Str × Addr)), lo ≤ n → (∀ p ∈ acc, (p.2 : Nat) < n) → (∀ (x y : Str) (c : Addr), (x, c) ∈ acc → (y, c) ∈ acc → lo ≤ c → x = y) →
    ∀ (x y : Str) (c : Addr), (x, c) ∈ cellsFrom n names acc → (y, c) ∈ cellsFrom n names acc → lo ≤ c → x = y
  | [], _, _, _, _, _, hi, x, y, c, h1, h2, l => hi x y c h1 h2 l
  | (z, k) :: r, n, lo, acc, hl, hn, hi, x, y, c, h1, h2, l => by
    unfold cellsFrom at h1 h2
    by_cases hk : (k == .cell) = true
    · rw [if_pos hk] at h1 h2
      refine cf_inj r (n + 1) lo _ (Nat.le_succ_of_le hl) (fun p hp => ?_) (fun x y c a b l => ?_) x y c h1 h2 l
      · rcases List.mem_cons.mp hp with e | e
        · subst e; exact Nat.lt_succ_self _
        · exact Nat.lt_succ_of_lt (hn p e)
      · rcases List.mem_cons.mp a with e | e <;> rcases List.mem_cons.mp b with e' | e'
        · rw [(Prod.mk.inj e).1, (Prod.mk.inj e').1]
        · have := hn _ e'
          rw [(Prod.mk.inj e).2] at this
          exact absurd this (Nat.lt_irrefl _)
        · have := hn _ e
          rw [(Prod.mk.inj e').2] at this
          exact absurd this (Nat.lt_irrefl _)
        · exact hi x y c e e' l
    · rw [if_neg hk] at h1 h2
      exact cf_inj r n lo acc hl hn hi x y c h1 h2 l
theorem cf_keep {x : Str} {c : Addr} : ∀ (names : List (Str × NameKind)) (n : Nat) (acc : List (Str × Addr)), acc.lookup x = some c → (x, NameKind.cell) ∉ names → (cellsFrom n names acc).lookup x = some c
  | [], _, _, h, _ => h
  | (y, k) :: r, n, acc, h, hm => by
    unfold cellsFrom
    have hr : (x, NameKind.cell) ∉ r := fun z => hm (List.mem_cons_of_mem _ z)
    by_cases hk : (k == .cell) = true
    · rw [if_pos hk]
      have ek : k = .cell := by simpa using hk
      subst ek
      refine cf_keep r (n + 1) _ ?_ hr
      rw [List.lookup_cons]
      have hne : (x == y) = false := by
        cases e : x == y with
        | false => rfl
        | true => rw [beq_iff_eq.mp e] at hm; exact absurd List.mem_cons_self hm
      rw [hne]
      exact h
    · rw [if_neg hk]
      exact cf_keep r n acc h hr
theorem cf_new : ∀ (names : List (Str × NameKind)) (h : Heap) (acc : List (Str × Addr)) (p : Str × Addr), p ∈ cellsFrom h.objs.size names acc → p ∈ acc ∨ (pushCells h names).IsCell p.2 none
  | [], _, _, _, h => .inl h
  | (y, k) :: r, h, acc, p, hp => by
    unfold cellsFrom at hp
    unfold pushCells
    by_cases hk : (k == .cell) = true
    · rw [if_pos hk] at hp ⊢
      have := cf_new r (h.push { cls := .type "cell", data := .cell none }) ((y, h.objs.size) :: acc) p (by rw [Heap.size_push]; exact hp)
      rcases this with z | z
      · rcases List.mem_cons.mp z with e | e
        · subst e
          exact .inr ⟨_, pushCells_keeps r _ _ _ (Heap.get?_push_size _ rfl), rfl⟩
        · exact .inl e
      · exact .inr z
    · rw [if_neg hk] at hp ⊢
      exact cf_new r h acc p hp
theorem mem_clos2 {scope : Scope} {env : Env} {x : Str} {c : Addr} (m : (x, c) ∈ closOf scope env) : env.cells.lookup x = some c ∧ (x, NameKind.free) ∈ scope.names := by
  unfold closOf at m
  rw [List.mem_reverse, List.mem_filterMap] at m
  obtain ⟨⟨n, k⟩, hy, e⟩ := m
  split at e
  · rename_i hk
    have hk : k = .free := by simpa using hk
    subst hk
    cases q : env.cells.lookup n with
    | none => rw [q] at e; cases e
    | some d =>
      rw [q] at e
      simp only [Option.map_some, Option.some.injEq, Prod.mk.injEq] at e
      rw [← e.1, q, e.2]
      exact ⟨rfl, hy⟩
  · cases e
def compEnvK (scope : Scope) (cl : List (Str × Addr)) (C : Addr) (env : Env) : Env :=
  { scope := relabel scope env, locals := C, globals := env.globals, cells := cellsFrom (C + 1) scope.names cl, qual := env.qual, func := none, code := env.code, frame := env.frame, builtins := env.builtins }
def nfeH (h : Heap) (names : List (Str × NameKind)) : Heap := pushCells (h.push { cls := .type "dict", data := .dict #[] }) names
theorem nfe_cells {M : Model} {A : Around} {E : Value → Shared → Prop} {s : Shared} {scope : Scope} {globals : Addr} {cl : List (Str × Addr)} {qual : Str} {env : Env} {Q : Env → Shared → Prop}
    (hQ : Q { scope := scope, locals := s.heap.objs.size, globals := globals, cells := cellsFrom (s.heap.objs.size + 1) scope.names cl, qual := qual, func := none, code := env.code, frame := env.frame, builtins := env.builtins } { s with heap := nfeH s.heap scope.names }) :
    wpAny M A (newFunctionEnv scope globals cl [] qual none .none (some env)) Q E s := by
  simp only [newFunctionEnv, Option.isSome_some, if_true]
  refine wpAny_bind (wpAny_alloc ?_)
  refine wpAny_bind (wpAny_layCells _ (fun name kind cells => by cases hkc : kind == NameKind.cell <;> simp [hkc]) _ _ _ _ ?_)
  rw [show ({ s with heap := s.heap.push { cls := .type "dict", data := .dict #[] } } : Shared).heap.objs.size = s.heap.objs.size + 1 from Heap.size_push ..]
  rw [List.forIn_nil]
  exact wpAny_bind (wpAny_pure (wpAny_pure hQ))
def compCxC (X : Cx) (N : List Str) (scope : Scope) (C : Addr) (s : Shared) (H : Hp) (fp : List Addr) : Cx :=
  { X with N := N, s₀ := s, H₀ := H, env := compEnvK scope (closOf scope X.env) C X.env, outer := X.stack, stack := X.stack, ex := fp, fn := fun x => scope.names.lookup x == some .cell, pn := [], xe := fun _ _ => False }
def scC (sc xsc : Scope) : Bool := (sc.kind == .function) && sc.names.all fun x => (x.2 != .cell || sc.names.lookup x.1 == some .cell) && (x.2 != .local || sc.names.lookup x.1 == some .local) && (x.2 != .free || ((sc.names.lookup x.1 == some .free) && ((xsc.names.lookup x.1 == some .cell) || (xsc.names.lookup x.1 == some .free))))
section
variable {X : Cx}
theorem compCxC_inv {pins : List (Addr × Obj)} {σ : St} {H : Hp} {s : Shared} {N : List Str} {scope : Scope} {nt : Nat} {cs : List Nat} {fp : List Addr} {tk : Nat} (I : Inv X pins σ H s)
    (hsc : scC scope X.env.scope = true) (hcap : capB cs (N.drop nt) X.N scope X.env.scope = true) (hlen : N.length = nt + cs.length)
    (hf : ∀ b ∈ fp, FpOk X pins H b) (hfl : ∀ b ∈ fp, b < s.heap.objs.size) :
    Inv (compCxC X N scope s.heap.objs.size s H fp) [] (capSt nt cs σ) H { s with heap := nfeH s.heap scope.names, toks := tk } := by
  have hk : ∀ b o, s.heap.get? b = some o → (nfeH s.heap scope.names).get? b = some o := fun b o e => pushCells_keeps _ _ b o (Heap.get?_push_of_some _ e)
  have hn : (nfeH s.heap scope.names).Ns s.heap.objs.size fun _ => none := (Heap.Ns.new s.heap (.type "dict")).keeps (pushCells_keeps _ _)
  unfold scC at hsc
  rw [Bool.and_eq_true] at hsc
  obtain ⟨hkd, hall⟩ := hsc
  have hkd : scope.kind = .function := by simpa using hkd
  rw [List.all_eq_true] at hall
  have cellL : ∀ x, (x, NameKind.cell) ∈ scope.names → scope.names.lookup x = some .cell := fun x hx => by
    have := hall _ hx
    simp only [bne_self_eq_false, Bool.false_or, Bool.and_eq_true, beq_iff_eq] at this
    exact this.1.1
  have freeL : ∀ x, (x, NameKind.free) ∈ scope.names → scope.names.lookup x = some .free := fun x hx => by
    have := hall _ hx
    simp only [bne_self_eq_false, Bool.false_or, Bool.and_eq_true, beq_iff_eq] at this
    exact this.2.1
  have free2 : ∀ x, (x, NameKind.free) ∈ scope.names → X.env.kindOf x = some .cell ∨ X.env.kindOf x = some .free := fun x hx => by
    have := hall _ hx
    simp only [bne_self_eq_false, Bool.false_or, Bool.and_eq_true, Bool.or_eq_true, beq_iff_eq] at this
    exact this.2.2
  have kinds : ∀ x, ((compCxC X N scope s.heap.objs.size s H fp).env.kindOf x = some .cell ∨ (compCxC X N scope s.heap.objs.size s H fp).env.kindOf x = some .free) → scope.names.lookup x = some .cell ∨ (x, NameKind.free) ∈ scope.names := fun x hx => by
    have q : ∃ k, (relabel scope X.env).names.lookup x = some k ∧ (k = .cell ∨ k = .free) := by
      rcases hx with e | e
      · exact ⟨_, e, .inl rfl⟩
      · exact ⟨_, e, .inr rfl⟩
    obtain ⟨k, e, hk'⟩ := q
    obtain ⟨k0, e0, r⟩ := relabel_lookup e
    have m := PySem.mem_of_lookup e0
    rcases r with r | ⟨r, _⟩
    · subst r
      rcases hk' with z | z
      · rw [z] at e0; exact .inl e0
      · rw [z] at m; exact .inr m
    · rw [r] at m; exact .inr m
  have clt : ∀ x c, X.env.cells.lookup x = some c → c < s.heap.objs.size := fun x c e => by
    obtain ⟨v, q⟩ := I.cell x c e
    exact q.lt
  -- a cell of the block: one of the caller's, or one of its own
  have two : ∀ x c, (compCxC X N scope s.heap.objs.size s H fp).env.cells.lookup x = some c → (X.env.cells.lookup x = some c ∧ (x, NameKind.free) ∈ scope.names) ∨ ((x, NameKind.cell) ∈ scope.names ∧ s.heap.objs.size + 1 ≤ c ∧ (nfeH s.heap scope.names).IsCell c none) := fun x c e => by
    have m := PySem.mem_of_lookup e
    rcases cf_mem _ _ _ _ m with z | ⟨z, l⟩
    · exact .inl (mem_clos2 z)
    · refine .inr ⟨z, l, ?_⟩
      have m' : (x, c) ∈ cellsFrom (s.heap.push { cls := .type "dict", data := .dict #[] }).objs.size scope.names (closOf scope X.env) := by rw [Heap.size_push]; exact m
      rcases cf_new _ _ _ _ m' with q | q
      · have := clt x c (mem_clos2 q).1
        exact absurd (Nat.lt_of_lt_of_le this (Nat.le_of_succ_le l)) (Nat.lt_irrefl _)
      · exact q
  refine ⟨⟨I.ok.mod, ?_, I.ok.glob, I.ok.blt, Nat.le_refl _, ?_, ?_, ?_, I.ok.hd, I.ok.frames, .inl rfl, ?_, ?_, ?_, ?_, ?_, ?_, ?_⟩, rfl, I.bare, Un.kept hk, ⟨_, hn, ?_⟩, ?_, ?_, ?_, ?_, I.hok.kept hk, ?_⟩
  · show (relabel scope X.env).kind = _
    exact hkd
  · intro x y c e1 e2
    rcases two x c e1 with ⟨a, _⟩ | ⟨_, a, _⟩ <;> rcases two y c e2 with ⟨b, _⟩ | ⟨_, b, _⟩
    · exact I.ok.inj x y c a b
    · exact absurd (Nat.lt_of_lt_of_le (clt x c a) (Nat.le_of_succ_le b)) (Nat.lt_irrefl _)
    · exact absurd (Nat.lt_of_lt_of_le (clt y c b) (Nat.le_of_succ_le a)) (Nat.lt_irrefl _)
    · refine cf_inj scope.names (s.heap.objs.size + 1) (s.heap.objs.size + 1) (closOf scope X.env) (Nat.le_refl _) (fun p hp => Nat.lt_succ_of_lt (clt p.1 p.2 (mem_clos2 hp).1)) (fun x y c h1 h2 l => ?_) x y c (PySem.mem_of_lookup e1) (PySem.mem_of_lookup e2) a
      exact absurd (Nat.lt_of_lt_of_le (clt x c (mem_clos2 h1).1) (Nat.le_of_succ_le l)) (Nat.lt_irrefl _)
  · intro x hx
    rcases kinds x hx with m | m
    · exact Option.isSome_iff_exists.mp (PySem.W.cellsFrom_some scope.names (s.heap.objs.size + 1) (closOf scope X.env) (.inl m))
    · obtain ⟨c, hc⟩ := I.ok.has x (free2 x m)
      exact Option.isSome_iff_exists.mp (PySem.W.cellsFrom_some scope.names (s.heap.objs.size + 1) (closOf scope X.env) (.inr (by rw [clos_has m hc]; rfl)))
  · intro x c z e
    have z : scope.names.lookup x = some .cell := by simpa [compCxC] using z
    rcases two x c e with ⟨_, m⟩ | ⟨_, l, _⟩
    · have := freeL x m
      rw [z] at this
      cases this
    · exact Nat.le_of_succ_le l
  · intro b hb
    obtain ⟨f0, f1, f2, f3, f4, f5⟩ := hf b hb
    refine ⟨Nat.ne_of_lt (hfl b hb), fun x c e => ?_⟩
    rcases two x c e with ⟨a, _⟩ | ⟨_, l, _⟩
    · exact f4 x c a
    · exact fun z => absurd (Nat.lt_of_lt_of_le (hfl b hb) (Nat.le_of_succ_le (z ▸ l))) (Nat.lt_irrefl _)
  · intro b o e
    exact I.bs b o e
  · exact Nat.le_trans I.ok.bsz I.sz
  · intro b o e hb
    obtain ⟨f0, f1, f2, f3, f4, f5⟩ := hf b hb
    rcases f3 with z | z
    · exact I.ok.noex b o e z
    · exact absurd (Nat.lt_of_lt_of_le (Heap.lt_size (I.ok.bs b o e).1) z) (Nat.lt_irrefl _)
  · intro b hb hs
    obtain ⟨f0, f1, f2, f3, f4, f5⟩ := hf b hb
    rcases List.mem_cons.mp (I.stkSub b hs) with z | z
    · exact f1 z
    · exact f2 z
  · exact I.stack
  · exact I.stkFree
  · intro i x v e1 e2 _
    have hi : nt ≤ i := by
      refine Nat.le_of_not_lt fun z => ?_
      unfold capSt at e2
      rw [List.getElem?_append_left (by simpa using z), List.getElem?_replicate, if_pos z] at e2
      cases e2
    unfold capSt at e2
    rw [List.getElem?_append_right (by simpa using hi), List.length_replicate, List.getElem?_map] at e2
    cases q : cs[i - nt]? with
    | none => rw [q] at e2; cases e2
    | some c =>
      rw [q] at e2
      simp only [Option.map_some, Option.some.injEq] at e2
      have e3 : σ[c]? = some (some v) := by
        cases z : σ[c]? with
        | none => rw [z] at e2; cases e2
        | some o => rw [z] at e2; exact congrArg some e2
      unfold capB at hcap
      rw [List.all_eq_true] at hcap
      have e4 : (N.drop nt)[i - nt]? = some x := by
        rw [List.getElem?_drop, show nt + (i - nt) = i by omega]
        exact e1
      have m : (c, x) ∈ cs.zip (N.drop nt) := by
        have : (cs.zip (N.drop nt))[i - nt]? = some (c, x) := by rw [List.getElem?_zip_eq_some]; exact ⟨q, e4⟩
        exact List.mem_of_getElem? this
      have hm := hcap _ m
      simp only [Bool.and_eq_true, beq_iff_eq, bne_iff_ne, ne_eq] at hm
      obtain ⟨⟨h1', h2'⟩, h3'⟩ := hm
      have hlk : scope.names.lookup x = some .free := h2'
      have h2' : (x, NameKind.free) ∈ scope.names := PySem.mem_of_lookup hlk
      have nocell : (x, NameKind.cell) ∉ scope.names := fun z => by
        have := cellL x z
        rw [hlk] at this
        cases this
      obtain ⟨mm, hmm, hl⟩ := I.loc
      have vis : Vis X.env.scope x := .inr (free2 x h2')
      obtain ⟨u, r, l⟩ := hl c x v h1' e3 vis
      rcases l with ⟨z, _⟩ | ⟨z, d, hd, hcell⟩
      · exact absurd z h3'
      · refine ⟨u, r, .inr ⟨?_, d, cf_keep _ _ _ (clos_has h2' hd) nocell, ?_⟩⟩
        · have isf : ∃ k, (relabel scope X.env).names.lookup x = some k := by
            have : ∃ k', (x, k') ∈ (relabel scope X.env).names := by
              unfold relabel
              by_cases cc : (X.env.scope.kind == .function && X.env.kindOf x == some .cell) = true
              · refine ⟨.cell, List.mem_map.mpr ⟨(x, .free), h2', ?_⟩⟩
                simp only [Bool.and_eq_true] at cc
                simp [cc.1, cc.2]
              · refine ⟨.free, List.mem_map.mpr ⟨(x, .free), h2', ?_⟩⟩
                simp only [Bool.and_eq_true] at cc
                have cc' : ¬ ((NameKind.free == NameKind.free && X.env.scope.kind == .function && X.env.kindOf x == some .cell) = true) := by
                  simp only [beq_self_eq_true, Bool.true_and, Bool.and_eq_true]
                  exact cc
                show (if (NameKind.free == NameKind.free && X.env.scope.kind == .function && X.env.kindOf x == some .cell) = true then (x, NameKind.cell) else (x, NameKind.free)) = (x, NameKind.free)
                rw [if_neg cc']
            obtain ⟨k', hk'⟩ := this
            exact lookup_mem hk'
          obtain ⟨k, ek⟩ := isf
          obtain ⟨k0, e0, rr⟩ := relabel_lookup ek
          rcases rr with rr | ⟨_, rr⟩
          · subst rr
            rw [hlk] at e0
            cases e0
            exact .inr ek
          · subst rr
            exact .inl ek
        · obtain ⟨o, ho, hd'⟩ := hcell
          exact ⟨o, hk _ _ ho, hd'⟩
  · intro x c e
    rcases two x c e with ⟨a, _⟩ | ⟨_, _, a⟩
    · obtain ⟨v, o, ho, hd⟩ := I.cell x c a
      exact ⟨v, o, hk _ _ ho, hd⟩
    · exact ⟨none, a⟩
  · exact I.hok.fresh (Nat.le_refl _)
  · intro x c e
    rcases two x c e with ⟨a, _⟩ | ⟨_, l, _⟩
    · exact I.freeC x c a
    · exact I.hok.fresh (Nat.le_of_succ_le l)
  · intro p hp
    cases hp
  · show (capSt nt cs σ).length = N.length
    unfold capSt
    rw [List.length_append, List.length_replicate, List.length_map, hlen]
theorem compC_core {use : Option (Value → Sem Unit)} {QQ : Value → Shared → Prop} {ipos : Pos} {tg iter elt : Expr} {ifs : List Expr} {scope : Scope} {pos : Pos} {wi : TI} {N : List Str} {nt : Nat} {cs : List Nat} {g : TG} {tt : TT} {te : TE} (hc : X.calm = true) (hi : PI X tg iter wi)
    (hb : N.Nodup → ∀ (C : Addr) (s : Shared) (H : Hp) (fp : List Addr), CompBody (compCxC X N scope C s H fp) tg ifs elt g tt te)
    (hnd : N.Nodup) (hsc : scC scope X.env.scope = true) (hcap : capB cs (N.drop nt) X.N scope X.env.scope = true) (hlen : N.length = nt + cs.length)
    (hs : ∀ x, foldedSetIterable iter X.env x = pure x) {pins : List (Addr × Obj)} {s : Shared} {σ : St} {H : Hp} {Q : V → Hp → Prop} (I : Inv X pins σ H s) (h : tComp wi nt cs g tt te σ H Q)
    (hfin : ∀ {acc : Addr} {fp : List Addr} {HX : Hp} {sx : Shared} {σ' : St} {H' : Hp} {s' : Shared}, Inv X pins σ HX sx → (∀ b ∈ fp, FpOk X pins HX b) → Inv (compCxC X N scope sx.heap.objs.size sx HX fp) [] σ' H' s' → Q (.ref acc) H' → compPost (model X.prog X.w) X.A X.xe use QQ (.ref acc) sx.heap.objs.size (.ok .next) s') :
    wpAny (model X.prog X.w) X.A (comprehension (.ListComp elt [⟨tg, iter, ifs, 0⟩] scope pos) scope X.env ipos (newList []) false (eval iter X.env) use) QQ X.xe s := by
  have hsc' := hsc
  unfold scC at hsc'
  rw [Bool.and_eq_true] at hsc'
  obtain ⟨hkd, hall⟩ := hsc'
  have hkd : scope.kind = .function := by simpa using hkd
  rw [List.all_eq_true] at hall
  have hnames : ∀ x ∈ scope.names, x.2 = .local → scope.names.lookup x.1 = some .local := fun x hx e => by
    have := hall x hx
    rw [e] at this
    simp only [bne_self_eq_false, Bool.false_or, Bool.and_eq_true, beq_iff_eq] at this
    exact this.1.2
  have hclos : closureFor scope X.env = pure (closOf scope X.env) := closureFor_ok fun x hx e => by
    have := hall x hx
    rw [e] at this
    simp only [bne_self_eq_false, Bool.false_or, Bool.and_eq_true, Bool.or_eq_true, beq_iff_eq] at this
    exact I.ok.has x.1 this.2.2
  refine wpAny_comprehension_free (use := use) rfl hs hclos hkd hnames (thn (hi pins s σ H _ I h) fun v s1 h1 => thn h1 fun itv s2 h2 => ?_)
  obtain ⟨it, fp, tn, J, H2, e, I2, T, st2, f2, hR⟩ := h2
  subst e
  refine wpAny_newObj_type (nfe_cells ?_)
  have fr := I2.fresh
  have I3 : Inv X pins σ (upd H2 s2.heap.objs.size (.lst [])) { s2 with heap := s2.heap.push { cls := .type "list", data := .seq ([] : List Value).toArray }, toks := s2.toks } := I2.lnew .nil (le_size (by decide))
  obtain ⟨W, ⟨m0, w0⟩, turn⟩ := hR _ fr
  generalize hacc : s2.heap.objs.size = acc at *
  generalize hsx : ({ s2 with heap := s2.heap.push { cls := .type "list", data := .seq ([] : List Value).toArray }, toks := s2.toks } : Shared) = sx at *
  have hC : sx.heap.objs.size = acc + 1 := by rw [← hsx, ← hacc]; exact Heap.size_push _ _
  have fpl : ∀ b ∈ fp, b < acc := fun b hb => by
    obtain ⟨o, ho, _⟩ := T.obj _ _ st2 b hb
    rw [← hacc]
    exact Heap.lt_size ho
  have f3 : ∀ b ∈ fp, FpOk X pins (upd H2 acc (.lst [])) b := fun b hb => by
    obtain ⟨f0, f1⟩ := f2 b hb
    exact ⟨by rw [upd_ne (Nat.ne_of_lt (fpl b hb))]; exact f0, f1⟩
  have keep3 : ∀ b o, sx.heap.get? b = some o → (nfeH sx.heap scope.names).get? b = some o := fun b o e => pushCells_keeps _ _ b o (Heap.get?_push_of_some _ e)
  have hn3 : (nfeH sx.heap scope.names).Ns sx.heap.objs.size fun _ => none := (Heap.Ns.new sx.heap (.type "dict")).keeps (pushCells_keeps _ _)
  have IC : Inv (compCxC X N scope sx.heap.objs.size sx (upd H2 acc (.lst [])) fp) [] (capSt nt cs σ) (upd H2 acc (.lst [])) { sx with heap := nfeH sx.heap scope.names, toks := sx.toks } :=
    compCxC_inv (tk := sx.toks) I3 hsc hcap hlen f3 (fun b hb => by rw [hC]; exact Nat.lt_succ_of_lt (fpl b hb))
  have hn3' : H2 acc = none := fr
  generalize hXC : compCxC X N scope sx.heap.objs.size sx (upd H2 acc (.lst [])) fp = XC at IC
  have ctxP : XC.prog = X.prog := by rw [← hXC]; rfl
  have ctxW : XC.w = X.w := by rw [← hXC]; rfl
  have ctxK : XC.K = X.K := by rw [← hXC]; rfl
  have ctxA : XC.A = X.A := by rw [← hXC]; rfl
  have ctxC : XC.calm = true := by rw [← hXC]; exact hc
  have ctxX : XC.xe = fun _ _ => False := by rw [← hXC]; rfl
  have ctxE : XC.env = compEnvK scope (closOf scope X.env) sx.heap.objs.size X.env := by rw [← hXC]; rfl
  have body : CompBody XC tg ifs elt g tt te := by rw [← hXC]; exact hb hnd _ _ _ _
  have st3 : tn 0 (nfeH sx.heap scope.names) := T.keep _ _ _ st2 fun b hb o e => keep3 b o (by rw [← hsx]; exact Heap.get?_push_of_some _ e)
  have stat : ∀ {H' : Hp}, (∀ b ∈ fp, H' b = none) → ∀ b ∈ fp, FpOk XC [] H' b := fun hn b hb => by
    obtain ⟨f0, f1, f2', f3', f4, f5⟩ := f3 b hb
    refine ⟨hn b hb, ?_, ?_, .inl (by rw [← hXC]; exact hb), fun x c e => ?_, fun p hp => ?_⟩
    · rw [ctxE]
      exact Nat.ne_of_lt (by rw [hC]; exact Nat.lt_succ_of_lt (fpl b hb))
    · rw [← hXC]
      intro z
      rcases List.mem_cons.mp (I3.stkSub b z) with z | z
      · exact f1 z
      · exact f2' z
    · rw [ctxE] at e
      rcases cf_mem _ _ _ _ (PySem.mem_of_lookup e) with z | ⟨_, z⟩
      · exact f4 x c (mem_clos2 z).1
      · have h9 := fpl b hb
        have z : sx.heap.objs.size + 1 ≤ c := z
        rw [hC] at z
        exact Nat.ne_of_gt (Nat.lt_of_lt_of_le h9 (Nat.le_of_succ_le (Nat.le_of_succ_le z)))
    · rw [← hXC] at hp
      cases hp
  have fin : ∀ {σ' : St} {H' : Hp} {s' : Shared}, Inv XC [] σ' H' s' → Q (.ref acc) H' → compPost (model X.prog X.w) X.A X.xe use QQ (.ref acc) sx.heap.objs.size (.ok .next) s' := fun {σ' H' s'} J' q => hfin I3 f3 (by rw [hXC]; exact J') q
  have loop : codeAny (model X.prog X.w) X.A (.compLoop (.ListComp elt [⟨tg, iter, ifs, 0⟩] scope pos) 0 (.ref it) (.ref acc) XC.env) (compPost (model X.prog X.w) X.A X.xe use QQ (.ref acc) sx.heap.objs.size)
      { sx with heap := nfeH sx.heap scope.names, toks := sx.toks } := by
    rw [← ctxP, ← ctxW, ← ctxA]
    refine codeAny_compLoop_gen (fun n s' => ∃ i ys σ' H', Inv XC [] σ' H' s' ∧ tn i s'.heap ∧ (∀ b ∈ fp, H' b = none) ∧ W i n ys σ' H') ?_ m0 ⟨0, [], _, _, IC, st3, fun b hb => (f3 b hb).1, w0⟩
    rintro n s3 ⟨i, ys, σ3, H3, I3', st3', fr3, w3⟩
    have T' := T
    rw [← ctxP, ← ctxW, ← ctxK] at T'
    obtain ⟨hacc3, alt⟩ := turn i n ys σ3 H3 w3
    rcases alt with ⟨stop, qn⟩ | ⟨go, hsz, NN, hNN, step⟩
    · refine thn (T'.done XC rfl rfl rfl ctxC i [] s3 σ3 H3 _ I3' (stat fr3) st3' stop) fun r s4 ⟨hr, I4⟩ => ?_
      subst hr
      rw [ctxP, ctxW, ctxA]
      exact fin I4 qn
    · refine thn (T'.item XC rfl rfl rfl ctxC i [] s3 σ3 H3 _ I3' (stat fr3) st3' go) fun r s4 ⟨u, hr, h4⟩ => ?_
      subst hr
      refine thn h4 fun _ s5 ⟨x, H5, I5, r5, y5, st5, fr5⟩ => ?_
      have I5' := I5.pinned (stat fr5) (T'.obj _ _ st5)
      have a1 := body.tg _ s5 σ3 H5 x u _ I5' r5 (step x H5 y5)
      rw [ctxX] at a1
      refine thn a1 fun _ s6 ⟨σ6, H6, I6, q6⟩ => ?_
      have a2 := body.tt _ s6 σ6 H6 _ I6 q6
      rw [ctxX] at a2
      refine thn a2 fun b s7 ⟨H7, I7, q7⟩ => ?_
      have again : ∀ {s8 : Shared} {σ7 : St} {H7 : Hp} {zs : List V}, Inv XC ([] ++ pinsAt fp s5.heap) σ7 H7 s8 → NN zs σ7 H7 → ∃ m, m < n ∧ ∃ i ys σ' H', Inv XC [] σ' H' s8 ∧ tn i s8.heap ∧ (∀ b ∈ fp, H' b = none) ∧ W i m ys σ' H' := fun {s8 σ7 H7 zs} I7 n7 => by
        obtain ⟨m', hm, w7⟩ := hNN zs σ7 H7 n7
        refine ⟨m', hm, i + 1, zs, σ7, H7, I7.unpinned, T'.keep _ _ _ st5 fun b hb o e => (I7.pin (b, o) (List.mem_append_right _ (List.mem_append_right _ (mem_pinsAt hb e)))).1, fun b hb => ?_, w7⟩
        obtain ⟨o, e, d⟩ := T'.obj _ _ st5 b hb
        exact (I7.pin (b, o) (List.mem_append_right _ (List.mem_append_right _ (mem_pinsAt hb e)))).2.1
      cases b with
      | false =>
        rw [if_neg Bool.false_ne_true] at q7 ⊢
        exact again I7 q7
      | true =>
        rw [if_pos rfl] at q7 ⊢
        have a3 := body.te _ s7 σ6 H7 _ I7 q7
        rw [ctxX] at a3
        refine thn a3 fun xv s8 ⟨y, H8, I8, r8, q8⟩ => ?_
        obtain ⟨hl8, n8⟩ := q8
        have a4 := mt_append (X := XC) _ s8 σ6 H8 (.ref acc) [y] (.ref acc) [xv] (fun _ H9 => NN (ys ++ [y]) σ6 H9) I8 rfl (.cons r8 .nil) ⟨acc, ys, y, rfl, rfl, hl8, hsz, n8⟩
        rw [ctxX] at a4
        refine thn a4 fun _ s9 ⟨_, H9, I9, _, q9⟩ => ?_
        exact again I9 q9
  rw [ctxE] at loop
  exact codeAny_compStart_list loop (T.self X.A 0 _ _ _ st3 loop)
theorem pe_compC {tg iter elt : Expr} {ifs : List Expr} {scope : Scope} {pos : Pos} {wi : TI} {N : List Str} {nt : Nat} {cs : List Nat} {g : TG} {tt : TT} {te : TE} (hc : X.calm = true) (hi : PI X tg iter wi)
    (hb : N.Nodup → ∀ (C : Addr) (s : Shared) (H : Hp) (fp : List Addr), CompBody (compCxC X N scope C s H fp) tg ifs elt g tt te)
    (hnd : N.Nodup) (hsc : scC scope X.env.scope = true) (hcap : capB cs (N.drop nt) X.N scope X.env.scope = true) (hlen : N.length = nt + cs.length)
    (hs : ∀ x, foldedSetIterable iter X.env x = pure x) : PE X (.ListComp elt [⟨tg, iter, ifs, 0⟩] scope pos) (tComp wi nt cs g tt te) := by
  intro pins s σ H Q I h
  rw [eval_ListComp]
  refine compC_core hc hi hb hnd hsc hcap hlen hs I h fun {acc fp HX sx σ' H' s'} I3 f3 J' q => ?_
  obtain ⟨m, hm, _⟩ := J'.loc
  refine ⟨m, hm, fun h' hs' => ⟨.ref acc, H', ?_, rfl, q⟩⟩
  refine I3.call' (s' := { s' with heap := h' }) J'.os (un_same J'.base hs' (Nat.le_refl _)) (hok_same J'.hok hs' J'.free) J'.bare fun b hb => ?_
  obtain ⟨f0, f1, f2', f3', f4, f5⟩ := f3 b hb
  exact ⟨f3', f1, f4, f5⟩
theorem ps_setCompC {y : Str} {py spos : Pos} {ix : Nat} {tg iter elt : Expr} {ifs : List Expr} {scope : Scope} {pos : Pos} {wi : TI} {N : List Str} {nt : Nat} {cs : List Nat} {g : TG} {tt : TT} {te : TE} (hc : X.calm = true) (hi : PI X tg iter wi)
    (hb : N.Nodup → ∀ (C : Addr) (s : Shared) (H : Hp) (fp : List Addr), CompBody (compCxC X N scope C s H fp) tg ifs elt g tt te)
    (hnd : N.Nodup) (hsc : scC scope X.env.scope = true) (hcap : capB cs (N.drop nt) X.N scope X.env.scope = true) (hlen : N.length = nt + cs.length)
    (hs : ∀ x, foldedSetIterable iter X.env x = pure x) (hN : X.N.Nodup) (hix : X.N[ix]? = some y) (hy : Loc X.env.scope y) (hf : X.fn y = true ∨ X.env.scope.names.lookup y = some .local)
    (hsw : swapsWith (.ListComp elt [⟨tg, iter, ifs, 0⟩] scope pos) (some (.Name y py)) spos.line X.env = pure true) : PS X (.Assign [.Name y py] (.ListComp elt [⟨tg, iter, ifs, 0⟩] scope pos) spos) (tAsg (tComp wi nt cs g tt te) (gName ix)) := by
  intro pins s σ H D I h
  rw [exec_Assign_Name_used _ _ _ _ hsw]
  refine wpAny_bind (wpAny_standAt (wpAny_bind ?_))
  show wpAny _ X.A (do let _ ← comprehension (.ListComp elt [⟨tg, iter, ifs, 0⟩] scope pos) scope X.env _ (newList []) false (eval iter X.env) (some (assign (.Name y py) X.env))) _ _ s
  refine wpAny_bind (wpAny_mono (compC_core (use := some (assign (.Name y py) X.env)) (QQ := fun _ s' => SP X pins D .next s') hc hi hb hnd hsc hcap hlen hs I h fun {acc fp HX sx σ' H' s'} I3 f3 J' q => ?_) (fun _ s' hq => wpAny_pure (wpAny_pure hq)) fun _ _ e => e)
  obtain ⟨m, hm, _⟩ := J'.loc
  have IX : Inv X pins σ H' s' := I3.call' J'.os J'.base J'.hok J'.bare fun b hb => by
    obtain ⟨f0, f1, f2', f3', f4, f5⟩ := f3 b hb
    exact ⟨f3', f1, f4, f5⟩
  have hCL : sx.heap.objs.size ≠ X.env.locals := Nat.ne_of_gt I3.lt
  have hCc : ∀ x c, X.env.cells.lookup x = some c → c ≠ sx.heap.objs.size := fun x c e => by
    obtain ⟨v, z⟩ := I3.cell x c e
    exact Nat.ne_of_lt z.lt
  have hCp : ∀ p ∈ X.pn ++ pins, p.1 ≠ sx.heap.objs.size := fun p hp => Nat.ne_of_lt (Heap.lt_size (I3.pin p hp).1)
  show wpAny _ X.A (assign (.Name y py) X.env (.ref acc)) _ _ s'
  refine wpAny_assign_Name (store_ok2 IX hN hix hy (v := .ref acc) rfl (fun s'' I'' ⟨a, hsb, ha⟩ => ?_) hf)
  have hCa : sx.heap.objs.size ≠ a := fun z => by
    rcases ha with e | e
    · exact hCL (z.trans e)
    · exact hCc _ _ e z.symm
  refine ⟨m, hm.sameBut hsb hCa, fun h' hs' => ⟨_, H', ?_, q⟩⟩
  exact I''.turned (t' := s''.toks) (fun b o hb e => (hs'.2 b hb).trans e) J'.free hCL (.inr I3.sz) hCc hCp
end
end L2
set_option Elab.async false
set_option linter.all false
set_option maxRecDepth 100000
set_option maxHeartbeats 1000000
namespace L2
open PySem PySem.Spec
theorem Chg.updN {p q : Addr} {H H' : Hp} {o : HO} (c : Chg p H H') (h : H q = none) : Chg p H (L2.upd H' q o) := fun b u n e => by rw [upd_ne (ne_of_none e h)]; exact c b u n e
theorem Chg.new {p q : Addr} {H H' : Hp} (c : Chg p H H') (n : q ≠ p) (h : H' q = none) : H q = none := by
  cases e : H q with
  | none => rfl
  | some o => rw [c q o n e] at h; cases h
section
variable {K : PySem.W.Frag} {σ : St} {H : Hp} {Q : VK} {cs : List Nat} {te : TE}
theorem comp_rows {n : Nat} (hz : n ≤ 1000) (row : Nat → List Int) (ex : List Addr) (hex : ∀ e ∈ ex, H e ≠ none)
    (hb : ∀ (i : Nat) H' (R : VK), i < n → Same H H' → (∀ r H5, H' r = none → Same H' H5 → H5 r = some (.lst ((row i).map V.int)) → R (.ref r) H5) → te (some (.int (0 + (i : Int))) :: capV cs σ) H' R)
    (hd : ∀ acc ys H', H acc = none → Same H H' → H' acc = some (.lst ys) → HRs H' (acc :: ex) ys ((List.range n).map row) → Q (.ref acc) H') :
    CompIt (Itr 0 n) 1 cs (gName 0) tYes te σ H Q := by
  refine comp_any n (fun acc i ws H' => Same H H' ∧ H acc = none ∧ H' acc = some (.lst ws) ∧ HRs H' (acc :: ex) ws ((List.range i).map row)) (le_size hz) ?_ ?_ ?_ ?_ ?_ ?_
  · rintro acc i ws H' hi _
    exact hi
  · rintro acc ws H' _
    exact Nat.le_refl _
  · intro acc ha
    exact ⟨same_new ha _, ha, upd_same, hrs_nil⟩
  · rintro acc i ws H' ⟨s, _, ha, hr⟩
    exact ⟨ha, by rw [hr.len, List.length_map, List.length_range]; exact Nat.le_refl _⟩
  · rintro acc i ws H' ts x H2 N hn hi ⟨s, hn', ha, hr⟩ ⟨rfl, rfl⟩ hts hN
    obtain ⟨t0, rfl⟩ : ∃ t0, ts = [t0] := by
      match ts, hts with
      | [a], _ => exact ⟨a, rfl⟩
    rw [w_gName, w_yes, if_pos rfl]
    refine hb i _ _ hi s fun r H5 hr0 s5 h5 => ?_
    refine ⟨s5 _ _ ha, hN _ [_] _ rfl ⟨same_upd hn (s.trans s5), hn, upd_same, ?_⟩⟩
    have hra : r ≠ acc := (ne_of_none ha hr0).symm
    have ne : ∀ e ∈ acc :: ex, r ≠ e := fun e he => by
      rcases List.mem_cons.mp he with z | z
      · subst z; exact hra
      · cases hh : H e with
        | none => exact absurd hh (hex e z)
        | some o => exact (ne_of_none (s _ _ hh) hr0).symm
    have h2 : HRs (upd H5 acc (.lst (ws ++ [.ref r]))) (acc :: ex) (ws ++ [.ref r]) ((List.range i).map row ++ [row i]) := by
      refine HRs.snoc ((hr.same s5).chg List.mem_cons_self (Chg.upd _)) ?_ ne
      rw [upd_ne hra]; exact h5
    rw [List.range_succ, List.map_append]
    exact h2
  · rintro acc ws H' hn ⟨s, _, ha, hr⟩
    exact hd acc ws H' hn s ha hr
end
def unitRow (n i : Nat) : List Int := (List.range n).map fun k => if k = i then 1 else 0
def unV (i : Nat) : V → Option V := fun x => match x with
  | .int k => some (.int (if k = (i : Int) then 1 else 0))
  | _ => none
theorem unV_map (n i : Nat) : (rngV 0 n).filterMap (unV i) = (unitRow n i).map V.int := by
  unfold rngV unitRow
  rw [List.map_map, List.filterMap_map]
  rw [show (unV i ∘ fun (k : Nat) => V.int (0 + (k : Int))) = fun k => some ((V.int ∘ fun k => if k = i then 1 else 0) k) from ?_, filterMap_some]
  funext k
  show some (V.int (if 0 + (k : Int) = (i : Int) then 1 else 0)) = some (V.int (if k = i then 1 else 0))
  by_cases h : k = i
  · subst h; rw [if_pos (by omega), if_pos rfl]
  · rw [if_neg (by omega), if_neg h]
theorem unitRow_len (n i : Nat) : (unitRow n i).length = n := by unfold unitRow; rw [List.length_map, List.length_range]
theorem unitRow_bound {n i : Nat} {x : Int} (h : x ∈ unitRow n i) : x = 0 ∨ x = 1 := by
  unfold unitRow at h
  obtain ⟨k, _, rfl⟩ := List.mem_map.mp h
  by_cases e : k = i
  · rw [if_pos e]; exact .inr rfl
  · rw [if_neg e]; exact .inl rfl
end L2
set_option Elab.async false
set_option linter.all false
set_option maxRecDepth 100000
set_option maxHeartbeats 1000000
namespace L2
open PySem PySem.Spec
theorem map_at {ns : List Int} {i : Nat} {x : V} (h : (ns.map V.int)[i]? = some x) : ∃ n, ns[i]? = some n ∧ x = V.int n := by
  rw [List.getElem?_map] at h
  cases e : ns[i]? with
  | none => rw [e] at h; cases h
  | some n => rw [e] at h; exact ⟨n, rfl, (Option.some.inj h).symm⟩
structure WI (H : Hp) (p : Addr) (ins : Nat) (tb dl : Addr) (k : Nat) (vs us : List V) (rs : List (List Int)) (ds : List Wd) (H' : Hp) : Prop where
  tbl : H' tb = some (.lst vs)
  hrs : HRs H' [dl, tb, p] vs rs
  rl : rs.length = ins + k
  rb : RB (41 * k) rs
  rw_ : ∀ r ∈ rs, r.length = ins
  dll : H' dl = some (.lst us)
  hds : HTs wTup H' us ds
  dlen : ds.length = k
  dk : ∀ (j : Nat) (d : Wd), ds[j]? = some d → d.a < ins + j ∧ d.b < ins + j ∧ (d.w = "sum" ∨ d.w = "less")
  chg : Chg p H H'
  ntb : H tb = none
  ndl : H dl = none
  tp : tb ≠ p
  dp : dl ≠ p
  td : tb ≠ dl
theorem HRs.sub {H : Hp} {ex ex' : List Addr} {vs : List V} {rs : List (List Int)} (h : HRs H ex vs rs) (s : ∀ e ∈ ex', e ∈ ex) : HRs H ex' vs rs := ⟨h.len, fun k r e => by
  obtain ⟨p, e1, e2, e3⟩ := h.at_ k r e
  exact ⟨p, e1, e2, fun z hz => e3 z (s z hz)⟩⟩
structure WG (H : Hp) (p : Addr) (ins : Nat) (tb dl gl : Addr) (k : Nat) (vs us os : List V) (rs : List (List Int)) (ds : List Wd) (gs : List Go) (H' : Hp) : Prop where
  wi : WI H p ins tb dl k vs us rs ds H'
  hrs : HRs H' [gl, dl, tb, p] vs rs
  gll : H' gl = some (.lst os)
  hgs : HTs gTp H' os gs
  gk : ∀ g ∈ gs, g.th < ins + k
  ngl : H gl = none
  gp : gl ≠ p
  gd : gl ≠ dl
  gt : gl ≠ tb
theorem WG.app {H : Hp} {p : Addr} {ins : Nat} {tb dl gl : Addr} {k : Nat} {vs us os : List V} {rs : List (List Int)} {ds : List Wd} {gs : List Go} {H' : Hp} (h : WG H p ins tb dl gl k vs us os rs ds gs H') {x : Addr} {g : Go}
    (hx : H' x = some (.tup (gTp g))) (hg : g.th < ins + k) : WG H p ins tb dl gl k vs us (os ++ [.ref x]) rs ds (gs ++ [g]) (upd H' gl (.lst (os ++ [.ref x]))) := by
  have C : Chg gl H' (upd H' gl (.lst (os ++ [.ref x]))) := Chg.upd _
  have nx : x ≠ gl := ne_of hx h.gll (by intro z; cases z)
  have r1 := h.hrs.chg (l := gl) (by simp) C
  have w1 : WI H p ins tb dl k vs us rs ds (upd H' gl (.lst (os ++ [.ref x]))) :=
    { h.wi with tbl := C _ _ h.gt.symm h.wi.tbl, hrs := r1.sub (by intro e he; exact List.mem_cons_of_mem _ he), dll := C _ _ h.gd.symm h.wi.dll, hds := h.wi.hds.chgL h.gll C, chg := h.wi.chg.updN h.ngl }
  refine ⟨w1, r1, upd_same, (h.hgs.chgL h.gll C).snoc (by rw [upd_ne nx]; exact hx), fun e he => ?_, h.ngl, h.gp, h.gd, h.gt⟩
  rcases List.mem_append.mp he with z | z
  · exact h.gk e z
  · rw [List.mem_singleton.mp z]; exact hg
end L2
set_option Elab.async false
set_option linter.all false
set_option maxRecDepth 100000
set_option maxHeartbeats 1000000
namespace L2
open PySem PySem.Spec
structure Wb (H : Hp) (w dl gl : Addr) (ins : Nat) (us : List V) (ds : List Wd) (os : List V) (gs : List Go) : Prop where
  tup : H w = some (.tup [.int ins, .ref dl, .ref gl])
  dll : H dl = some (.lst us)
  hds : HTs wTup H us ds
  gll : H gl = some (.lst os)
  hgs : HTs gTp H os gs
theorem Wb.same {H H' : Hp} {w dl gl : Addr} {ins : Nat} {us : List V} {ds : List Wd} {os : List V} {gs : List Go} (h : Wb H w dl gl ins us ds os gs) (s : Same H H') : Wb H' w dl gl ins us ds os gs :=
  ⟨s _ _ h.tup, s _ _ h.dll, h.hds.same s, s _ _ h.gll, h.hgs.same s⟩
def sgW (w : Str) : Int := if w = "less" then -1 else 1
structure Ar where
  st : Nat
  go : Nat
  sh : Int
  sg : Int
def aTup (a : Ar) : List V := [.int a.st, .int a.go, .int a.sh, .int a.sg]
def arrF (ins : Nat) : Nat → List Wd → List Ar
  | _, [] => []
  | k, d :: r => ⟨d.a, ins + k, d.s, 1⟩ :: ⟨d.b, ins + k, d.t, sgW d.w⟩ :: arrF ins (k + 1) r
theorem arrF_app (ins : Nat) : ∀ (xs ys : List Wd) (k : Nat), arrF ins k (xs ++ ys) = arrF ins k xs ++ arrF ins (k + xs.length) ys
  | [], ys, k => rfl
  | d :: r, ys, k => by
    show ⟨d.a, ins + k, d.s, 1⟩ :: ⟨d.b, ins + k, d.t, sgW d.w⟩ :: arrF ins (k + 1) (r ++ ys) = _
    rw [arrF_app ins r ys (k + 1), show k + 1 + r.length = k + (d :: r).length by simp; omega]
    rfl
theorem arrF_len (ins : Nat) : ∀ (xs : List Wd) (k : Nat), (arrF ins k xs).length = 2 * xs.length
  | [], _ => rfl
  | d :: r, k => by
    show (arrF ins (k + 1) r).length + 1 + 1 = _
    rw [arrF_len ins r (k + 1)]; simp; omega
theorem arr_at {ins : Nat} : ∀ {ds : List Wd} {k t : Nat} {a : Ar}, (arrF ins k ds)[t]? = some a → ∃ d, ds[t / 2]? = some d ∧ a.go = ins + k + t / 2 ∧ ((t % 2 = 0 ∧ a = ⟨d.a, ins + k + t / 2, d.s, 1⟩) ∨ (t % 2 = 1 ∧ a = ⟨d.b, ins + k + t / 2, d.t, sgW d.w⟩))
  | [], k, t, a, h => by
    rw [show arrF ins k [] = [] from rfl] at h
    simp at h
  | d :: r, k, t, a, h => by
    match t, h with
    | 0, h => cases h; exact ⟨d, rfl, rfl, .inl ⟨rfl, rfl⟩⟩
    | 1, h => cases h; exact ⟨d, rfl, rfl, .inr ⟨rfl, rfl⟩⟩
    | t + 2, h =>
      have h' : (arrF ins (k + 1) r)[t]? = some a := h
      obtain ⟨e, e1, e2, e3⟩ := arr_at h'
      have q : (t + 2) / 2 = t / 2 + 1 := by omega
      have q2 : ins + (k + 1) + t / 2 = ins + k + (t / 2 + 1) := by omega
      rw [q]
      rw [q2] at e2 e3
      refine ⟨e, e1, e2, ?_⟩
      rcases e3 with ⟨z, e3⟩ | ⟨z, e3⟩
      · exact .inl ⟨by omega, e3⟩
      · exact .inr ⟨by omega, e3⟩
inductive Rch (ins : Nat) (ds : List Wd) (gs : List Go) : Nat → Prop
  | root {g : Go} : g ∈ gs → g.sg ≠ 0 → Rch ins ds gs g.th
  | fst {k : Nat} {d : Wd} : ds[k]? = some d → Rch ins ds gs (ins + k) → Rch ins ds gs d.a
  | snd {k : Nat} {d : Wd} : ds[k]? = some d → Rch ins ds gs (ins + k) → Rch ins ds gs d.b
def spSnd : Sp := fun vs H Q _ => ∃ (x : Addr) (d : Wd), vs = [.ref x] ∧ H x = some (.tup (wTup d)) ∧ Q (.int (sgW d.w)) H
def spCnt : Sp := fun vs H Q _ => ∃ (w dl gl : Addr) (ins : Nat) (us : List V) (ds : List Wd) (os : List V) (gs : List Go), vs = [.ref w] ∧ Wb H w dl gl ins us ds os gs ∧ Q (.int ((ins : Int) + (ds.length : Nat))) H
def spDArr : Sp := fun vs H Q _ => ∃ (w dl gl : Addr) (ins : Nat) (us : List V) (ds : List Wd) (os : List V) (gs : List Go), vs = [.ref w] ∧ Wb H w dl gl ins us ds os gs ∧ ds.length ≤ 400 ∧
  ∀ r ws H', H r = none → Same H H' → H' r = some (.lst ws) → HTs aTup H' ws (arrF ins 0 ds) → Q (.ref r) H'
theorem ixN_nat {n j : Nat} (h : j < n) : ixN n (j : Int) = some j := by unfold ixN; rw [if_pos (by omega), if_pos (by omega)]; rfl
end L2
set_option Elab.async false
set_option linter.all false
set_option maxRecDepth 100000
set_option maxHeartbeats 1000000
namespace L2
open PySem PySem.Spec
section
variable {H : Hp} {Q : VK}
theorem w_pop {l : Addr} : rPop (.ref l) [] H Q = ∃ xs y, H l = some (.lst xs) ∧ xs[xs.length - 1]? = some y ∧ Q y (upd H l (.lst xs.dropLast)) :=
  propext ⟨fun ⟨l', xs, y, e, _, h, g, q⟩ => by cases e; exact ⟨xs, y, h, g, q⟩, fun ⟨xs, y, h, g, q⟩ => ⟨l, xs, y, rfl, rfl, h, g, q⟩⟩
theorem w_extend {l b : Addr} : rExtend (.ref l) [.ref b] H Q = ∃ xs zs, H l = some (.lst xs) ∧ H b = some (.lst zs) ∧ xs.length + zs.length ≤ sizeLine ∧ Q .non (upd H l (.lst (xs ++ zs))) :=
  propext ⟨fun ⟨l', b', xs, zs, e, e2, h⟩ => by cases e; cases e2; exact ⟨xs, zs, h⟩, fun ⟨xs, zs, h⟩ => ⟨l, b, xs, zs, rfl, rfl, h⟩⟩
theorem w_reverse {l : Addr} : rReverse (.ref l) [] H Q = ∃ xs, H l = some (.lst xs) ∧ Q .non (upd H l (.lst xs.reverse)) :=
  propext ⟨fun ⟨l', xs, e, _, h⟩ => by cases e; exact ⟨xs, h⟩, fun ⟨xs, h⟩ => ⟨l, xs, rfl, rfl, h⟩⟩
theorem w_clear {l : Addr} : rClear (.ref l) [] H Q = ∃ xs, H l = some (.lst xs) ∧ Q .non (upd H l (.lst [])) :=
  propext ⟨fun ⟨l', xs, e, _, h⟩ => by cases e; exact ⟨xs, h⟩, fun ⟨xs, h⟩ => ⟨l, xs, rfl, rfl, h⟩⟩
theorem w_cat {l b : Addr} : rCat (.ref l) (.ref b) H Q = ∃ xs zs, H l = some (.lst xs) ∧ H b = some (.lst zs) ∧ xs.length + zs.length ≤ sizeLine ∧ ∀ p, H p = none → Q (.ref p) (upd H p (.lst (xs ++ zs))) :=
  propext ⟨fun ⟨l', b', xs, zs, e, e2, h⟩ => by cases e; cases e2; exact ⟨xs, zs, h⟩, fun ⟨xs, zs, h⟩ => ⟨l, b, xs, zs, rfl, rfl, h⟩⟩
end
section
variable {X : Cx}
end
section
variable {K : PySem.W.Frag} {σ : St} {H : Hp} {Q : VK} {cs : List Nat} {tt : TT} {te : TE}
theorem comp_goals {gl : Addr} {os : List V} {gs : List Go} (hl : H gl = some (.lst os)) (hg : HTs gTp H os gs) (hz : gs.length ≤ 1000) (f : Go → Option V)
    (hb : ∀ g H' (R : Option V → Hp → Prop), g ∈ gs → Same H H' → R (f g) H' → tt ([some (.int (g.th : Int)), some (.int g.sh), some (.int g.sg)] ++ capV cs σ) H' fun b H4 => if b = true then te ([some (.int (g.th : Int)), some (.int g.sh), some (.int g.sg)] ++ capV cs σ) H4 fun y H5 => R (some y) H5 else R none H4)
    (hd : ∀ acc H', H acc = none → Same H H' → H' acc = some (.lst (gs.filterMap f)) → Q (.ref acc) H') :
    CompIt (Itl K gl) 3 cs (gTupM 3 (gCons (gName 0) (gCons (gName 1) (gCons (gName 2) gNil)))) tt te σ H Q := by
  refine comp_any gs.length (fun acc i ws H' => Same H H' ∧ H' acc = some (.lst ws) ∧ ws = (gs.take i).filterMap f) (le_size hz) ?_ ?_ ?_ ?_ ?_ ?_
  · rintro acc i ws H' hi ⟨s, _, _⟩
    exact ⟨os, os[i]'(by rw [hg.len]; exact hi), SqL.of (s _ _ hl), List.getElem?_eq_getElem _⟩
  · rintro acc ws H' ⟨s, _, _⟩
    exact ⟨os, SqL.of (s _ _ hl), by rw [hg.len]; exact Nat.le_refl _⟩
  · intro acc ha
    exact ⟨same_new ha _, upd_same, rfl⟩
  · rintro acc i ws H' ⟨s, ha, rfl⟩
    exact ⟨ha, Nat.le_trans (List.length_filterMap_le _ _) (by rw [List.length_take]; omega)⟩
  · rintro acc i ws H' ts x H2 N hn hi ⟨s, ha, hws⟩ y hts hN
    obtain ⟨e, hx0⟩ := y
    have hx := hx0 os (SqL.of (s _ _ hl))
    clear hx0
    subst e
    obtain ⟨p, hp1, hp2⟩ := hg.at_ i _ (List.getElem?_eq_getElem hi)
    have hgi : gs[i]? = some gs[i] := List.getElem?_eq_getElem hi
    have hgm : gs[i] ∈ gs := List.getElem_mem hi
    generalize gs[i] = g at hp2 hgi hgm
    rw [hx] at hp1
    cases hp1
    obtain ⟨t0, t1, t2, rfl⟩ : ∃ t0 t1 t2, ts = [t0, t1, t2] := by
      match ts, hts with
      | [a, b, c], _ => exact ⟨a, b, c, rfl⟩
    have hp3 := s _ _ hp2
    unfold gTp at hp3
    rw [w_gTupM]
    refine ⟨_, hp3, rfl, ?_⟩
    rw [w_gCons, w_gName, w_gCons, w_gName, w_gCons, w_gName, w_gNil]
    have tk : gs.take (i + 1) = gs.take i ++ [g] := by rw [List.take_add_one, hgi]; rfl
    refine hb g _ (fun o H5 => match o with | some y => H5 acc = some (.lst ws) ∧ N (ws ++ [y]) ([some (.int (g.th : Int)), some (.int g.sh), some (.int g.sg)] ++ capV cs σ) (upd H5 acc (.lst (ws ++ [y]))) | none => N ws ([some (.int (g.th : Int)), some (.int g.sh), some (.int g.sg)] ++ capV cs σ) H5) hgm s ?_
    cases hf : f g with
    | none =>
      refine hN _ _ _ rfl ⟨s, ha, ?_⟩
      rw [tk, List.filterMap_append, ← hws]
      simp [hf]
    | some y =>
      refine ⟨ha, hN _ _ _ rfl ⟨same_upd hn s, upd_same, ?_⟩⟩
      rw [tk, List.filterMap_append, ← hws]
      simp [hf]
  · rintro acc ws H' hn ⟨s, ha, hws⟩
    rw [List.take_length] at hws
    subst hws
    exact hd acc H' hn s ha
end
def fr (ms : List Nat) : Nat → Nat
  | 0 => 0
  | n + 1 => (if n ∈ ms then 0 else 1) + fr ms n
theorem hts_isL {α : Type} {f : α → List V} {K : PySem.W.Frag} {H : Hp} (hf : ∀ a, (f a).all flatV = true) : ∀ {xs : List α} {vs : List V}, HTs f H vs xs → IsL K H vs (xs.map fun a => .t ((f a).map Dt.f))
  | [], vs, h => by
    have : vs = [] := List.eq_nil_of_length_eq_zero h.len
    subst this
    rw [List.map_nil, IsL]
  | a :: r, vs, h => by
    obtain ⟨p, h1, h2⟩ := h.at_ 0 a rfl
    cases vs with
    | nil => cases h1
    | cons v vs =>
      cases h1
      rw [List.map_cons, IsL]
      refine ⟨_, _, rfl, is_tup (SqT.of h2) (hf a), hts_isL hf ⟨by have := h.len; simpa using this, fun k x hx => ?_⟩⟩
      exact h.at_ (k + 1) x hx
def webDt (ins : Nat) (ds : List Wd) (gs : List Go) : Dt := .t [.f (.int ins), .l (ds.map fun d => .t ((wTup d).map Dt.f)), .l (gs.map fun g => .t ((gTp g).map Dt.f))]
theorem Wb.is {K : PySem.W.Frag} {H : Hp} {w dl gl : Addr} {ins : Nat} {us : List V} {ds : List Wd} {os : List V} {gs : List Go} (h : Wb H w dl gl ins us ds os gs) : Is K H (.ref w) (webDt ins ds gs) := by
  unfold webDt
  rw [Is]
  refine ⟨w, _, rfl, SqT.of h.tup, ?_⟩
  rw [IsL]
  refine ⟨_, _, rfl, by rw [Is]; exact ⟨rfl, rfl⟩, ?_⟩
  rw [IsL]
  refine ⟨_, _, rfl, ?_, ?_⟩
  · rw [Is]
    exact ⟨dl, us, rfl, SqL.of h.dll, hts_isL (fun _ => rfl) h.hds⟩
  · rw [IsL]
    refine ⟨_, _, rfl, ?_, by rw [IsL]⟩
    rw [Is]
    exact ⟨gl, os, rfl, SqL.of h.gll, hts_isL (fun _ => rfl) h.hgs⟩
theorem depL_tups {α : Type} {f : α → List V} : ∀ (xs : List α), depL (xs.map fun a => .t ((f a).map Dt.f)) ≤ 1
  | [] => by rw [List.map_nil, depL]; decide
  | a :: r => by
    rw [List.map_cons, depL, dep_t]
    have := depL_tups (f := f) r
    omega
theorem dep_web (ins : Nat) (ds : List Wd) (gs : List Go) : dep (webDt ins ds gs) ≤ 50 := by
  unfold webDt
  have h1 := depL_tups (f := wTup) ds
  have h2 := depL_tups (f := gTp) gs
  rw [dep, depL, depL, depL, depL, dep, dep, dep]
  omega
theorem ne_web {K : PySem.W.Frag} {H : Hp} {w dl gl w' dl' gl' : Addr} {ins : Nat} {us us' : List V} {ds : List Wd} {os os' : List V} {gs : List Go} {Q : VK} (h : Wb H w dl gl ins us ds os gs) (h' : Wb H w' dl' gl' ins us' ds os' gs) (q : Q (.bl false) H) : rNeD K (.ref w) (.ref w') H Q :=
  ⟨w, _, _, rfl, h.is, h'.is, dep_web _ _ _, by rw [deq_refl _ (h.is (K := K))]; exact q⟩
end L2
set_option Elab.async false
set_option linter.all false
set_option maxRecDepth 100000
set_option maxHeartbeats 1000000
namespace L2
open PySem PySem.Spec PyProof.Rows
abbrev ZX (h : Heap) (z TI TO a : Addr) (f : Bool) : Prop := h.get? z = some { cls := .type "zip", dict := none, data := .fields #[rawInt a, .bool f, .bool false, .ref TI, .ref TO], slots := #[] }
section
variable {prog : Program} {w : World} {A : Around} {E : Value → Shared → Prop} {s : Shared}
theorem zx_draw {z TI TO i1 i2 l1 l2 : Addr} {k : Nat} {xs ys : Array Value} {x y : Value} {Q : Value → Shared → Prop} {f : Bool} {a : Addr} (D : ZipApart z TI TO i1 i2 l1 l2)
    (hz : ZX s.heap z TI TO a f) {oa : Obj} (hoa : s.heap.get? a = some oa) (haz : a ≠ z) (hTI : IsPair s.heap TI (.ref i1) (.ref i2))
    (h1 : s.heap.IsListIter i1 l1 k) (h2 : s.heap.IsListIter i2 l2 k) (hl1 : s.heap.IsList l1 xs) (hl2 : s.heap.IsList l2 ys) (hx : xs[k]? = some x) (hy : ys[k]? = some y)
    (hQ : ∀ h', ZX h' z TI TO a true → h'.IsListIter i1 l1 (k + 1) → h'.IsListIter i2 l2 (k + 1) → IsPair h' s.heap.objs.size x y → h'.objs.size = s.heap.objs.size + 1 →
      (∀ c o, c ≠ z → c ≠ i1 → c ≠ i2 → s.heap.get? c = some o → h'.get? c = some o) → Q (.ref s.heap.objs.size) { s with heap := h' }) :
    wpAny (model prog w) A (Builtin.«zip.__next__» ⟨[.ref z], []⟩) (fun fin s' => ∃ v, fin = .done (.ret v) ∧ Q v s') E s := by
  show wpAny _ A (do let two ← field (.ref z) 2; _) _ _ s
  refine wpAny_bind (wpAny_field hz rfl (x := Value.bool false) rfl (wpAny_bind (wpAny_field hz rfl (x := Value.ref TI) rfl (wpAny_bind (wpAny_seqItems hTI rfl ?_)))))
  have own : ∀ (R : Bool → Shared → Prop), (∀ h₁, ZX h₁ z TI TO a true → Heap.SameBut z s.heap h₁ → R false { s with heap := h₁ }) → wpAny (model prog w) A (Builtin.SmallTypes.ownedTupleIsFree (.ref z)) R E s := by
    intro R hR
    unfold Builtin.SmallTypes.ownedTupleIsFree
    refine wpAny_bind (wpAny_field hz rfl (x := rawInt a) rfl ?_)
    show wpAny _ A (do let o ← loadIfAlive ((a : Int).toNat); _) _ _ s
    rw [Int.toNat_natCast]
    refine wpAny_bind (PySem.W.kdx_alive hoa ?_)
    simp only [Option.isNone_some, Bool.false_eq_true, if_false]
    refine wpAny_bind (wpAny_field hz rfl (x := Value.bool f) rfl ?_)
    cases f with
    | true =>
      rw [if_neg (by decide)]
      exact wpAny_bind (wpAny_pure (wpAny_pure (hR s.heap hz (Heap.SameBut.refl _ _))))
    | false =>
      rw [if_pos (by decide)]
      exact wpAny_bind (wpAny_setField_rec hz (by simp) fun h₁ e₁ b₁ => wpAny_pure (hR h₁ e₁ b₁))
  show wpAny _ A (do let b ← Builtin.SmallTypes.ownedTupleIsFree (.ref z); _) _ _ s
  refine wpAny_bind (own _ fun h₁ hz₁ hs₁ => ?_)
  simp only [Bool.false_eq_true, if_false, List.forIn_toArray, List.forIn_cons, List.forIn_nil]
  refine wpAny_bind (wpAny_bind (wpAny_bind (wpAny_holding ?_)))
  show wpAny _ A (do let got ← Builtin.SmallTypes.nextOf (.ref i1); _) _ _ _
  refine wpAny_bind (wpAny_nextOf_list_item (h1.extBut hs₁.extBut D.i1z) (hl1.extBut hs₁.extBut D.l1z) hx fun h₂ p₂ hs₂ => wpAny_pure (wpAny_pure ?_))
  refine wpAny_bind (wpAny_bind (wpAny_holding ?_))
  show wpAny _ A (do let got ← Builtin.SmallTypes.nextOf (.ref i2); _) _ _ _
  refine wpAny_bind (wpAny_nextOf_list_item ((h2.extBut hs₁.extBut D.i2z).extBut hs₂.extBut D.i12.symm) ((hl2.extBut hs₁.extBut D.l2z).extBut hs₂.extBut D.l2i1) hy fun h₃ p₃ hs₃ => wpAny_pure (wpAny_pure (wpAny_pure ?_)))
  refine wpAny_bind (wpAny_newTuple (hsz := le_size (by show 2 ≤ 1000; decide)) (wpAny_pure ⟨_, rfl, ?_⟩))
  have sz : h₃.objs.size = s.heap.objs.size := by rw [hs₃.1, hs₂.1, hs₁.1]
  have hz₃ : ZX h₃ z TI TO a true := hs₃.extBut _ _ D.i2z.symm (hs₂.extBut _ _ D.i1z.symm hz₁)
  have p₂' : h₃.IsListIter i1 l1 (k + 1) := p₂.extBut hs₃.extBut D.i12
  show Q (.ref h₃.objs.size) _
  have up : ∀ c o, c ≠ z → c ≠ i1 → c ≠ i2 → s.heap.get? c = some o → (h₃.push { cls := .type "tuple", data := .seq #[x, y] }).get? c = some o := fun c o c1 c2 c3 e => Heap.get?_push_of_some _ (hs₃.extBut _ _ c3 (hs₂.extBut _ _ c2 (hs₁.extBut _ _ c1 e)))
  have last := hQ (h₃.push { cls := .type "tuple", data := .seq #[x, y] }) (Heap.get?_push_of_some _ hz₃) (p₂'.at fun o e => Heap.get?_push_of_some _ e) (p₃.at fun o e => Heap.get?_push_of_some _ e) (by rw [← sz]; exact Heap.get?_push_size _ rfl) (by rw [Heap.size_push, sz]) up
  rw [sz]
  exact last
theorem zx_stop {z TI TO i1 i2 l1 l2 : Addr} {k : Nat} {xs : Array Value} {Q : Fin → Shared → Prop} {f : Bool} {a : Addr} (hh : A.handled = none) (D : ZipApart z TI TO i1 i2 l1 l2)
    (hz : ZX s.heap z TI TO a f) {oa : Obj} (hoa : s.heap.get? a = some oa) (haz : a ≠ z) (hTI : IsPair s.heap TI (.ref i1) (.ref i2))
    (h1 : s.heap.IsListIter i1 l1 k) (hl1 : s.heap.IsList l1 xs) (hx : xs[k]? = none)
    (hE : ∀ h' e, (∀ c o, c ≠ z → c ≠ i1 → s.heap.get? c = some o → h'.get? c = some o) → (∃ o, h'.get? e = some o ∧ o.cls = .type "StopIteration") → E (.ref e) { s with heap := h' }) :
    wpAny (model prog w) A (Builtin.«zip.__next__» ⟨[.ref z], []⟩) Q E s := by
  show wpAny _ A (do let two ← field (.ref z) 2; _) _ _ s
  refine wpAny_bind (wpAny_field hz rfl (x := Value.bool false) rfl (wpAny_bind (wpAny_field hz rfl (x := Value.ref TI) rfl (wpAny_bind (wpAny_seqItems hTI rfl ?_)))))
  have own : ∀ (R : Bool → Shared → Prop), (∀ h₁, ZX h₁ z TI TO a true → Heap.SameBut z s.heap h₁ → R false { s with heap := h₁ }) → wpAny (model prog w) A (Builtin.SmallTypes.ownedTupleIsFree (.ref z)) R E s := by
    intro R hR
    unfold Builtin.SmallTypes.ownedTupleIsFree
    refine wpAny_bind (wpAny_field hz rfl (x := rawInt a) rfl ?_)
    show wpAny _ A (do let o ← loadIfAlive ((a : Int).toNat); _) _ _ s
    rw [Int.toNat_natCast]
    refine wpAny_bind (PySem.W.kdx_alive hoa ?_)
    simp only [Option.isNone_some, Bool.false_eq_true, if_false]
    refine wpAny_bind (wpAny_field hz rfl (x := Value.bool f) rfl ?_)
    cases f with
    | true =>
      rw [if_neg (by decide)]
      exact wpAny_bind (wpAny_pure (wpAny_pure (hR s.heap hz (Heap.SameBut.refl _ _))))
    | false =>
      rw [if_pos (by decide)]
      exact wpAny_bind (wpAny_setField_rec hz (by simp) fun h₁ e₁ b₁ => wpAny_pure (hR h₁ e₁ b₁))
  show wpAny _ A (do let b ← Builtin.SmallTypes.ownedTupleIsFree (.ref z); _) _ _ s
  refine wpAny_bind (own _ fun h₁ hz₁ hs₁ => ?_)
  simp only [Bool.false_eq_true, if_false, List.forIn_toArray, List.forIn_cons, List.forIn_nil]
  refine wpAny_bind (wpAny_bind (wpAny_bind (wpAny_holding ?_)))
  show wpAny _ A (do let got ← Builtin.SmallTypes.nextOf (.ref i1); _) _ _ _
  exact wpAny_bind (wpAny_nextOf_list_end hh (h1.extBut hs₁.extBut D.i1z) (hl1.extBut hs₁.extBut D.l1z) hx fun h₂ e hs₂ he => hE h₂ e (fun c o c1 c2 q => hs₂ _ _ c2 (hs₁.extBut _ _ c1 q)) he)
def ZSt (h : Heap) (z TI TO i1 i2 l1 l2 S : Addr) (k : Nat) : Prop :=
  IsPair h TI (.ref i1) (.ref i2) ∧ h.IsListIter i1 l1 k ∧ h.IsListIter i2 l2 k ∧ ((k = 0 ∧ IsZip h z TI TO .none ∧ ∃ x y, IsPair h TO x y) ∨ ∃ a f oa, ZX h z TI TO a f ∧ h.get? a = some oa ∧ a ≠ z ∧ a ≠ S ∧ a ≠ i1 ∧ a ≠ i2)
theorem ZSt.keep {h h' : Heap} {z TI TO i1 i2 l1 l2 S : Addr} {k : Nat} (st : ZSt h z TI TO i1 i2 l1 l2 S k) (hk : ∀ b o, b ≠ S → h.get? b = some o → h'.get? b = some o) (n : z ≠ S ∧ TI ≠ S ∧ TO ≠ S ∧ i1 ≠ S ∧ i2 ≠ S) : ZSt h' z TI TO i1 i2 l1 l2 S k := by
  obtain ⟨a, b, c, d⟩ := st
  obtain ⟨n1, n2, n3, n4, n5⟩ := n
  refine ⟨hk _ _ n2 a, b.at fun o e => hk _ o n4 e, c.at fun o e => hk _ o n5 e, ?_⟩
  rcases d with ⟨e, d1, x, y, d2⟩ | ⟨a, f, oa, d1, d2, d3, d4, d5⟩
  · exact .inl ⟨e, hk _ _ n1 d1, x, y, hk _ _ n3 d2⟩
  · exact .inr ⟨a, f, oa, hk _ _ n1 d1, hk _ _ d4 d2, d3, d4, d5⟩
theorem zst_item {z TI TO i1 i2 l1 l2 S : Addr} {k : Nat} {xs ys : Array Value} {x y : Value} {Q : Option Value → Shared → Prop} (D : ZipApart z TI TO i1 i2 l1 l2) (hS : S < s.heap.objs.size) (st : ZSt s.heap z TI TO i1 i2 l1 l2 S k)
    (hl1 : s.heap.IsList l1 xs) (hl2 : s.heap.IsList l2 ys) (hx : xs[k]? = some x) (hy : ys[k]? = some y)
    (hQ : ∀ h', ZSt h' z TI TO i1 i2 l1 l2 S (k + 1) → IsPair h' s.heap.objs.size x y → h'.objs.size = s.heap.objs.size + 1 →
      (∀ c o, c ≠ z → c ≠ TO → c ≠ i1 → c ≠ i2 → s.heap.get? c = some o → h'.get? c = some o) → Q (some (.ref s.heap.objs.size)) { s with heap := h' }) :
    wpAny (model prog w) A (pyNext (.ref z)) Q E s := by
  obtain ⟨tI, p1, p2, d⟩ := st
  have j1 : i1 < s.heap.objs.size := by obtain ⟨_, e, _⟩ := p1; exact Heap.lt_size e
  have j2 : i2 < s.heap.objs.size := by obtain ⟨_, e, _⟩ := p2; exact Heap.lt_size e
  rcases d with ⟨rfl, d1, u, v, d2⟩ | ⟨a, f, oa, d1, d2, d3, d4, d5, d6⟩
  · refine wpAny_pyNext_zip_item D d1 tI d2 p1 p2 hl1 hl2 hx hy fun h' a1 a2 a3 a4 a5 a6 a7 => hQ h' ⟨a7 _ _ D.TIz D.TITO D.TIi1 D.TIi2 tI, a3, a4, .inr ⟨_, false, _, a1, a5, Nat.ne_of_gt (Heap.lt_size d1), Nat.ne_of_gt hS, Nat.ne_of_gt j1, Nat.ne_of_gt j2⟩⟩ a5 a6 a7
  · have hT : s.TypeIs (.ref z) "zip" := ⟨_, d1, rfl⟩
    unfold pyNext
    refine wpAny_bind (wpAny_attempt (wpAny_callSpecial?_slot (name := Str.ofString "__next__") hT F.slot_zip_next (wpAny_call_entry F.slot_zip_next hT F.entry_zip_next (zx_draw D d1 d2 d3 tI p1 p2 hl1 hl2 hx hy fun h' a1 a2 a3 a4 a5 a6 => wpAny_pure ?_) (F.args_zip_next_1 _))))
    exact hQ h' ⟨a6 _ _ D.TIz D.TIi1 D.TIi2 tI, a2, a3, .inr ⟨a, true, oa, a1, a6 _ _ d3 d5 d6 d2, d3, d4, d5, d6⟩⟩ a4 a5 fun c o c1 _ c3 c4 e => a6 c o c1 c3 c4 e
theorem zst_end {z TI TO i1 i2 l1 l2 S : Addr} {k : Nat} {xs ys : Array Value} {Q : Option Value → Shared → Prop} (hh : A.handled = none) (D : ZipApart z TI TO i1 i2 l1 l2) (st : ZSt s.heap z TI TO i1 i2 l1 l2 S k)
    (hl1 : s.heap.IsList l1 xs) (hl2 : s.heap.IsList l2 ys) (hx : xs[k]? = none)
    (hQ : ∀ h', (∀ c o, c ≠ z → c ≠ TO → c ≠ i1 → c ≠ i2 → s.heap.get? c = some o → h'.get? c = some o) → Q none { s with heap := h' }) :
    wpAny (model prog w) A (pyNext (.ref z)) Q E s := by
  obtain ⟨tI, p1, p2, d⟩ := st
  rcases d with ⟨rfl, d1, u, v, d2⟩ | ⟨a, f, oa, d1, d2, d3, d4, d5, d6⟩
  · exact wpAny_pyNext_zip_end hh D d1 tI d2 p1 p2 hl1 hl2 (.inl hx) hQ
  · have hT : s.TypeIs (.ref z) "zip" := ⟨_, d1, rfl⟩
    unfold pyNext
    refine wpAny_bind (wpAny_attempt (wpAny_callSpecial?_slot (name := Str.ofString "__next__") hT F.slot_zip_next (wpAny_call_entry F.slot_zip_next hT F.entry_zip_next (zx_stop hh D d1 d2 d3 tI p1 hl1 hx fun h' e hk he => ?_) (F.args_zip_next_1 _))))
    obtain ⟨o, ho, hc⟩ := he
    exact wpAny_bind (wpAny_isInstance (T := "StopIteration") (b := true) ⟨o, ho, hc⟩ isSubtype_stop (wpAny_pure (hQ _ fun c o c1 _ c3 _ e => hk c o c1 c3 e)))
structure ZG (xs ys : Array Value) (lo : Addr) (h : Heap) (as : List Addr) : Prop where
  above : ∀ a ∈ as, lo < a
  nd : as.Pairwise (· < ·)
  pair : ∀ (j : Nat) (a : Addr), as[j]? = some a → ∃ x y, xs[j]? = some x ∧ ys[j]? = some y ∧ IsPair h a x y
theorem ZG.lt {xs ys : Array Value} {lo a : Addr} {h : Heap} {as : List Addr} (g : ZG xs ys lo h as) (ha : a ∈ as) : a < h.objs.size := by
  obtain ⟨j, hj⟩ := List.mem_iff_getElem?.mp ha
  obtain ⟨x, y, _, _, e⟩ := g.pair j a hj
  exact Heap.lt_size e
end
section
variable {prog : Program} {w : World} {A : Around} {s : Shared} {R : Result → Shared → Prop} {xs ys : Array Value} {z TI TO i1 i2 l1 l2 S lo : Addr}
theorem zl_loop (hh : A.handled = none) (D : ZipApart z TI TO i1 i2 l1 l2) (nS : z ≠ S ∧ TI ≠ S ∧ TO ≠ S ∧ i1 ≠ S ∧ i2 ≠ S) (ls : l1 ≠ S ∧ l2 ≠ S) (hlo : S ≤ lo ∧ z ≤ lo ∧ TO ≤ lo ∧ i1 ≤ lo ∧ i2 ≤ lo) (hlen : ys.size = xs.size) (hz : xs.size ≤ sizeLine) (res : Value) {g₀ : Heap}
    (fin : ∀ h' tk acc c as, (∀ b o, b ≠ S → b ≠ z → b ≠ TO → b ≠ i1 → b ≠ i2 → g₀.get? b = some o → h'.get? b = some o) → h'.get? S = some { cls := .type "list", dict := none, data := .seq acc c, slots := #[] } → as.length = xs.size → ZG xs ys lo h' as → acc.toList = as.map Value.ref → R (.ok (.ret res)) { s with heap := h', toks := tk }) :
    ∀ (n k : Nat) (h : Heap) (tk c : Nat) (acc : Array Value) (as : List Addr), xs.size - k = n → k ≤ xs.size → ZSt h z TI TO i1 i2 l1 l2 S k → h.IsList l1 xs → h.IsList l2 ys → (∀ b o, b ≠ S → b ≠ z → b ≠ TO → b ≠ i1 → b ≠ i2 → g₀.get? b = some o → h.get? b = some o) →
      h.get? S = some { cls := .type "list", dict := none, data := .seq acc c, slots := #[] } → acc.toList = as.map Value.ref → as.length = k → ZG xs ys lo h as → lo < h.objs.size → codeAny (model prog w) A (.builtin "list.extend.loop" ⟨[.ref S, .ref z, res], []⟩) R { s with heap := h, toks := tk } := by
  obtain ⟨zS, iS, oS, aS, bS⟩ := nS
  obtain ⟨lo0, lo1, lo2, lo3, lo4⟩ := hlo
  have five : ∀ {a : Addr}, lo < a → a ≠ S ∧ a ≠ z ∧ a ≠ TO ∧ a ≠ i1 ∧ a ≠ i2 := fun {a} h =>
    ⟨Nat.ne_of_gt (Nat.lt_of_le_of_lt lo0 h), Nat.ne_of_gt (Nat.lt_of_le_of_lt lo1 h), Nat.ne_of_gt (Nat.lt_of_le_of_lt lo2 h), Nat.ne_of_gt (Nat.lt_of_le_of_lt lo3 h), Nat.ne_of_gt (Nat.lt_of_le_of_lt lo4 h)⟩
  intro n
  induction n with
  | zero =>
    intro k h tk c acc as e1 e2 st p1 p2 hk hS ha hl G hs
    refine codeAny_builtin PySem.F.entry_extend_loop (by
      rw [Around.under_plainId PySem.F.plain_extend_loop _]
      show wpAny _ A.in1 (do let r ← pyNext (.ref z); _) _ _ _
      refine wpAny_bind (zst_end (s := { s with heap := h, toks := tk }) (A := A.in1) hh D st p1 p2 (Array.getElem?_eq_none (by omega)) fun h' k' => ?_)
      refine wpAny_pure (fin h' tk acc c as (fun b o b1 b2 b3 b4 b5 e => k' b o b2 b3 b4 b5 (hk b o b1 b2 b3 b4 b5 e)) (k' S _ zS.symm oS.symm aS.symm bS.symm hS) (by omega) ⟨G.above, G.nd, fun j a hj => ?_⟩ ha)
      obtain ⟨x, y, q1, q2, q3⟩ := G.pair j a hj
      obtain ⟨f1, f2, f3, f4, f5⟩ := five (G.above a (List.mem_of_getElem? hj))
      exact ⟨x, y, q1, q2, k' a _ f2 f3 f4 f5 q3⟩)
  | succ n ih =>
    intro k h tk c acc as e1 e2 st p1 p2 hk hS ha hl G hs
    have hlt : k < xs.size := by omega
    have asz : acc.size = k := by rw [← Array.length_toList, ha, List.length_map, hl]
    refine codeAny_builtin PySem.F.entry_extend_loop (by
      rw [Around.under_plainId PySem.F.plain_extend_loop _]
      show wpAny _ A.in1 (do let r ← pyNext (.ref z); _) _ _ _
      refine wpAny_bind (zst_item (s := { s with heap := h, toks := tk }) (S := S) D (Heap.lt_size hS) st p1 p2 (Array.getElem?_eq_getElem hlt) (Array.getElem?_eq_getElem (by omega)) fun h' st' pr sz k' => ?_)
      dsimp only at pr sz k' ⊢
      have hS' := k' S _ zS.symm oS.symm aS.symm bS.symm hS
      have up : ∀ b o, b ≠ S → h'.get? b = some o → (h'.update S (Obj.mapSeq (·.push (Value.ref h.objs.size)))).get? b = some o := fun b o nb e => (Heap.get?_update_other _ _ nb.symm).trans e
      show wpAny _ A.in1 (do updateSeq S (·.push (Value.ref h.objs.size)); _) _ _ _
      have ne0 := five hs
      refine wpAny_bind (wpAny_updateSeq hS' rfl (wpAny_pure ⟨plainId_quiet PySem.F.plain_extend_loop _, ih (k + 1) _ tk _ (acc.push (Value.ref h.objs.size)) (as ++ [h.objs.size]) (by omega) hlt (st'.keep up ⟨zS, iS, oS, aS, bS⟩)
        (p1.at fun o e => up _ o ls.1 (k' _ o D.l1z D.l1TO D.l1i1 D.l1i2 e)) (p2.at fun o e => up _ o ls.2 (k' _ o D.l2z D.l2TO D.l2i1 D.l2i2 e)) (fun b o b1 b2 b3 b4 b5 e => up b o b1 (k' b o b2 b3 b4 b5 (hk b o b1 b2 b3 b4 b5 e)))
        (Heap.get?_update_self _ hS' rfl) (by rw [Array.toList_push, ha, List.map_append]; rfl) (by rw [List.length_append, hl]; rfl) ⟨?_, ?_, ?_⟩ ?_⟩) (by rw [asz]; omega) (by show (acc.push (Value.ref h.objs.size)).size ≤ sizeLine + 1; rw [Array.size_push, asz]; omega))
      · intro a hm
        rcases List.mem_append.mp hm with q | q
        · exact G.above a q
        · rw [List.mem_singleton.mp q]; exact hs
      · refine List.pairwise_append.mpr ⟨G.nd, List.pairwise_singleton _ _, fun a q b r => ?_⟩
        rw [List.mem_singleton.mp r]
        exact G.lt q
      · intro j a hj
        rcases get_snoc hj with ⟨_, q⟩ | ⟨q, r⟩
        · obtain ⟨x, y, q1, q2, q3⟩ := G.pair j a q
          obtain ⟨f1, f2, f3, f4, f5⟩ := five (G.above a (List.mem_of_getElem? q))
          exact ⟨x, y, q1, q2, up a _ f1 (k' a _ f2 f3 f4 f5 q3)⟩
        · subst r
          rw [q, hl]
          exact ⟨_, _, Array.getElem?_eq_getElem hlt, Array.getElem?_eq_getElem (by omega), up _ _ ne0.1 pr⟩
      · exact Nat.lt_trans hs (Heap.lt_size (up _ _ ne0.1 pr)))
end
theorem zip_nolen : typeLookup (.type "zip") "__len__" = pure none := by rw [typeLookup_type, builtinLookup_eq_fast]; kernel_rfl
theorem zip_nohint : typeLookup (.type "zip") "__length_hint__" = pure none := by rw [typeLookup_type, builtinLookup_eq_fast]; kernel_rfl
section
variable {prog : Program} {w : World} {A : Around} {E : Value → Shared → Prop} {s : Shared} {xs ys : Array Value} {z TI TO i1 i2 l1 l2 : Addr}
theorem zl_call {Q : Value → Shared → Prop} (hh : A.handled = none) (D : ZipApart z TI TO i1 i2 l1 l2) (hz0 : IsZip s.heap z TI TO .none) (hTI : IsPair s.heap TI (.ref i1) (.ref i2)) (hTO : ∃ x y, IsPair s.heap TO x y) (h1 : s.heap.IsListIter i1 l1 0) (h2 : s.heap.IsListIter i2 l2 0) (hl1 : s.heap.IsList l1 xs) (hl2 : s.heap.IsList l2 ys)
    (hlen : ys.size = xs.size) (hz : xs.size ≤ sizeLine)
    (hQ : ∀ h' tk acc c as, (∀ b o, b ≠ z → b ≠ TO → b ≠ i1 → b ≠ i2 → s.heap.get? b = some o → h'.get? b = some o) → h'.get? s.heap.objs.size = some { cls := .type "list", dict := none, data := .seq acc c, slots := #[] } → as.length = xs.size → ZG xs ys s.heap.objs.size h' as → acc.toList = as.map Value.ref → Q (.ref s.heap.objs.size) { s with heap := h', toks := tk }) :
    wpAny (model prog w) A (call (.type "list") [.ref z]) Q E s := by
  have lz : z < s.heap.objs.size := Heap.lt_size hz0
  have lT : TI < s.heap.objs.size := Heap.lt_size hTI
  have lO : TO < s.heap.objs.size := by obtain ⟨_, _, e⟩ := hTO; exact Heap.lt_size e
  have l1' : i1 < s.heap.objs.size := by obtain ⟨_, e, _⟩ := h1; exact Heap.lt_size e
  have l2' : i2 < s.heap.objs.size := by obtain ⟨_, e, _⟩ := h2; exact Heap.lt_size e
  have ll1 : l1 < s.heap.objs.size := by obtain ⟨_, e, _⟩ := hl1; exact Heap.lt_size e
  have ll2 : l2 < s.heap.objs.size := by obtain ⟨_, e, _⟩ := hl2; exact Heap.lt_size e
  refine callType_codes (Q₁ := fun obj s₁ => obj = .ref s.heap.objs.size ∧ s₁ = { s with heap := s.heap.push { cls := .type "list", data := .seq #[] } }) PySem.F.called_list (PySem.F.typeCall_list_1 _) PySem.F.entry_list_init (code_list_new _ ⟨rfl, rfl⟩) fun obj s₁ e => ?_
  obtain ⟨rfl, rfl⟩ := e
  have hS : (s.heap.push { cls := .type "list", data := .seq #[] }).get? s.heap.objs.size = some { cls := .type "list", data := .seq #[] } := Heap.get?_push_size _ rfl
  generalize hSS : s.heap.objs.size = S at *
  have hk0 : ∀ b o, s.heap.get? b = some o → (s.heap.push { cls := .type "list", data := .seq #[] }).get? b = some o := fun b o e => Heap.get?_push_of_some _ e
  have hsz0 : (s.heap.push { cls := .type "list", data := .seq #[] }).objs.size = S + 1 := by rw [Heap.size_push, hSS]
  generalize s.heap.push { cls := .type "list", data := .seq #[] } = g at hS hk0 hsz0
  have run : ∀ (h : Heap) (c₁ tk : Nat), (∀ b o, b ≠ S → g.get? b = some o → h.get? b = some o) → h.get? S = some { cls := .type "list", data := .seq #[] c₁ } →
      codeAny (model prog w) A.in1 (.builtin "list.extend.loop" ⟨[.ref S, .ref z, .none], []⟩) (wants (fun r s₂ => r = Value.none ∧ Q (.ref S) s₂) E) { s with heap := h, toks := tk } := by
    intro h c₁ tk k' hS₁
    have hv : ∀ b o, s.heap.get? b = some o → h.get? b = some o := fun b o e => k' b o (Nat.ne_of_lt (by rw [← hSS]; exact Heap.lt_size e)) (hk0 b o e)
    obtain ⟨u, v, hTO⟩ := hTO
    refine zl_loop (A := A.in1) (s := s) (g₀ := s.heap) (lo := S) hh D ⟨Nat.ne_of_lt lz, Nat.ne_of_lt lT, Nat.ne_of_lt lO, Nat.ne_of_lt l1', Nat.ne_of_lt l2'⟩ ⟨Nat.ne_of_lt ll1, Nat.ne_of_lt ll2⟩ ⟨Nat.le_refl _, Nat.le_of_lt lz, Nat.le_of_lt lO, Nat.le_of_lt l1', Nat.le_of_lt l2'⟩ hlen hz .none
      (fun h' tk' acc c as k2 hS2 hl hG ha => ⟨rfl, hQ h' tk' acc c as (fun b o b1 b2 b3 b4 e => k2 b o (Nat.ne_of_lt (by rw [← hSS]; exact Heap.lt_size e)) b1 b2 b3 b4 e) hS2 hl hG ha⟩)
      xs.size 0 h tk c₁ #[] [] (Nat.sub_zero _) (Nat.zero_le _) ⟨hv _ _ hTI, h1.at fun o e => hv _ o e, h2.at fun o e => hv _ o e, .inl ⟨rfl, hv _ _ hz0, u, v, hv _ _ hTO⟩⟩ (hl1.at fun o e => hv _ o e) (hl2.at fun o e => hv _ o e) (fun b o _ _ _ _ _ e => hv b o e) hS₁ rfl rfl
      ⟨(fun _ q => nomatch q), List.Pairwise.nil, (fun j a q => by simp at q)⟩ (Heap.lt_size hS₁)
  refine ⟨⟨_, hS, rfl⟩, PySem.F.args_list_init_2 _ _, ?_⟩
  show wpAny _ A.in1.in1 (do let was ← Builtin.List.listItems (.ref S); _) _ _ _
  refine wpAny_bind (by
    unfold Builtin.List.listItems
    refine wpAny_bind (wpAny_seqItems hS rfl (wpAny_pure ?_))
    show wpAny _ A.in1.in1 (do updateSeq S (fun _ => #[]); _) _ _ _
    refine wpAny_bind (wpAny_updateSeq hS rfl (wpAny_bind (wpAny_letGo ?_)))
    have hS₂ := Heap.get?_update_self (Obj.mapSeq fun _ => (#[] : Array Value)) hS rfl
    have k2 : ∀ b o, b ≠ S → g.get? b = some o → (g.update S (Obj.mapSeq fun _ => (#[] : Array Value))).get? b = some o := fun b o nb e => (Heap.get?_update_other _ _ nb.symm).trans e
    generalize g.update S (Obj.mapSeq fun _ => (#[] : Array Value)) = g2 at hS₂ k2
    show wpAny _ A.in1.in1 (Builtin.List.listExtendWith (.ref S) (.ref z) .none) _ _ _
    have hz2 : IsZip g2 z TI TO .none := k2 _ _ (Nat.ne_of_lt lz) (hk0 _ _ hz0)
    have hT2 : Shared.TypeIs { s with heap := g2 } (.ref z) "zip" := ⟨_, hz2, rfl⟩
    unfold Builtin.List.listExtendWith
    refine wpAny_bind (wpAny_typeOf (T := "zip") hT2 ?_)
    rw [show Builtin.List.listSameRef (.ref S) (.ref z) = false by simp [Builtin.List.listSameRef, Nat.ne_of_gt lz]]
    simp only [show (Value.type "zip" == Value.type "list") = false by decide, show (Value.type "zip" == Value.type "tuple") = false by decide, Bool.or_false, Bool.false_eq_true, if_false]
    refine wpAny_bind (wpAny_pyIter_zip hz2 (wpAny_bind (wpAny_holding ?_)))
    unfold Builtin.List.listLengthHint
    refine wpAny_bind (wpAny_specialOf hT2 zip_nolen ?_)
    show wpAny _ A.in1.in1 (do let x ← specialOf (Value.ref z) (Str.ofString "__length_hint__"); _) _ _ _
    refine wpAny_bind (wpAny_specialOf hT2 zip_nohint (wpAny_pure ?_))
    show wpAny _ A.in1.in1 (do rule "list.extend.makes-room"; _) _ _ _
    refine wpAny_bind (wpAny_rule (wpAny_bind ?_))
    show wpAny _ A.in1.in1 (do updateSeq S (·.push .none); _) _ _ _
    refine wpAny_bind (wpAny_updateSeq hS₂ rfl ?_)
    have hS₃ := Heap.get?_update_self (Obj.mapSeq (·.push Value.none)) hS₂ rfl
    refine wpAny_updateSeq (hz := by seq_fits) hS₃ rfl (wpAny_pure ⟨plainId_quiet PySem.F.plain_extend_loop _, run _ _ s.toks (fun b o nb e => ?_) (Heap.get?_update_self (Obj.mapSeq (·.pop)) hS₃ rfl)⟩)
    exact (Heap.get?_update_other _ _ nb.symm).trans ((Heap.get?_update_other _ _ nb.symm).trans (k2 b o nb e)))
end
def lay (H New : Hp) : Hp := fun b => match New b with
  | some o => some o
  | none => H b
theorem lay_some {H New : Hp} {b : Addr} {o : HO} (h : New b = some o) : lay H New b = some o := by unfold lay; rw [h]
theorem lay_none {H New : Hp} {b : Addr} (h : New b = none) : lay H New b = H b := by unfold lay; rw [h]
theorem lay_old {H New : Hp} {b : Addr} {o : HO} (hn : ∀ c u, New c = some u → H c = none) (h : H b = some o) : lay H New b = some o := by
  cases e : New b with
  | none => rw [lay_none e]; exact h
  | some u => rw [hn b u e] at h; cases h
theorem Inv.laidN {X : Cx} {pins : List (Addr × Obj)} {σ : St} {H New : Hp} {s : Shared} {h' : Heap} {t' : Nat} (I : Inv X pins σ H s) (k : ∀ b u, s.heap.get? b = some u → h'.get? b = some u)
    (hn : ∀ b o, New b = some o → s.heap.objs.size ≤ b ∧ ObjOk X.prog X.w (lay H New) h' b o) : Inv X pins σ (lay H New) { s with heap := h', toks := t' } := by
  have old : ∀ c u, New c = some u → H c = none := fun c u e => I.hok.fresh (hn c u e).1
  have fresh : ∀ b o, s.heap.get? b = some o → New b = none := fun b o e => by
    cases q : New b with
    | none => rfl
    | some u => exact absurd (Nat.lt_of_lt_of_le (Heap.lt_size e) (hn b u q).1) (Nat.lt_irrefl _)
  refine I.un ⟨fun b o e _ _ _ => k b o e, fun b o e _ _ _ => ⟨o.slots, k b o e⟩, fun b o e n _ => by rw [lay_none (fresh b o e)]; exact n, fun b o e _ => ⟨o, k b o e⟩, fun b xs e => lay_old old e, fun b o u e => lay_old old e, fun b ps e => ⟨#[], by rw [Array.append_empty]; exact lay_old old e⟩⟩ (fun b o e => ?_)
  cases q : New b with
  | some u =>
    rw [lay_some q] at e
    have e' := Option.some.inj e
    subst e'
    exact (hn _ _ q).2
  | none =>
    rw [lay_none q] at e
    exact (I.hok b o e).stay (fun c v _ z => k c v z) (fun c z => lay_old old z) fun c xs z => lay_old old z
def tupsAt : List Addr → List (List V) → Hp
  | a :: as, p :: ps => fun b => if b = a then some (.tup p) else tupsAt as ps b
  | _, _ => fun _ => none
theorem tupsAt_get : ∀ {as : List Addr} {ps : List (List V)} {j : Nat} {a : Addr} {p : List V}, as.Pairwise (· < ·) → as[j]? = some a → ps[j]? = some p → tupsAt as ps a = some (.tup p)
  | c :: as, q :: ps, 0, a, p, _, h1, h2 => by
    cases h1
    cases h2
    unfold tupsAt
    rw [if_pos rfl]
  | c :: as, q :: ps, j + 1, a, p, nd, h1, h2 => by
    have h1' : as[j]? = some a := h1
    have lt := (List.pairwise_cons.mp nd).1 a (List.mem_of_getElem? h1')
    unfold tupsAt
    rw [if_neg (Nat.ne_of_gt lt)]
    exact tupsAt_get (List.pairwise_cons.mp nd).2 h1' h2
theorem tupsAt_of : ∀ {as : List Addr} {ps : List (List V)} {b : Addr} {o : HO}, tupsAt as ps b = some o → ∃ (j : Nat) (p : List V), as[j]? = some b ∧ ps[j]? = some p ∧ o = .tup p
  | [], ps, b, o, h => by cases h
  | c :: as, [], b, o, h => by cases h
  | c :: as, q :: ps, b, o, h => by
    unfold tupsAt at h
    by_cases e : b = c
    · rw [if_pos e] at h
      cases h
      subst e
      exact ⟨0, q, rfl, rfl, rfl⟩
    · rw [if_neg e] at h
      obtain ⟨j, p, h1, h2, h3⟩ := tupsAt_of h
      exact ⟨j + 1, p, h1, h2, h3⟩
def tLZ (K : PySem.W.Frag) (ta : TA) : TE := fun σ H Q => ta σ H fun vs H1 => ∃ a b us ws, vs = [.ref a, .ref b] ∧ SqL K H1 a us ∧ SqL K H1 b ws ∧ ws.length = us.length ∧ us.length ≤ 1000 ∧
  ∀ l zs H', H1 l = none → Same H1 H' → H' l = some (.lst zs) → zs.length = us.length → (∀ (k : Nat) (x y : V), us[k]? = some x → ws[k]? = some y → ∃ t : Addr, zs[k]? = some (.ref t) ∧ H' t = some (.tup [x, y])) → Q (.ref l) H'
theorem w_LZ {K : PySem.W.Frag} {ta : TA} {σ : St} {H : Hp} {Q : VK} : tLZ K ta σ H Q = (ta σ H fun vs H1 => ∃ a b us ws, vs = [.ref a, .ref b] ∧ SqL K H1 a us ∧ SqL K H1 b ws ∧ ws.length = us.length ∧ us.length ≤ 1000 ∧
  ∀ l zs H', H1 l = none → Same H1 H' → H' l = some (.lst zs) → zs.length = us.length → (∀ (k : Nat) (x y : V), us[k]? = some x → ws[k]? = some y → ∃ t : Addr, zs[k]? = some (.ref t) ∧ H' t = some (.tup [x, y])) → Q (.ref l) H') := rfl
theorem vals_refs : ∀ (as : List Addr), Vals (as.map V.ref) (as.map Value.ref)
  | [] => .nil
  | a :: r => .cons rfl (vals_refs r)
theorem pe_listzip {X : Cx} (K : PySem.W.Frag) {a b : Expr} {ta : TA} {p q pos pos2 : Pos} (hc : X.calm = true) (hg : Gl X "list") (hm : X.mg "list" = none) (hg2 : Gl X "zip") (hm2 : X.mg "zip" = none) (ha : PA X [a, b] ta) (hK : X.K = K := by rfl)
    (hs : starEach [a, b] X.env = (false, eval a X.env) :: starEach [b] X.env := by rfl) (hpl : (backTo pos2 (starEach [b] X.env)).any (·.1) = false := by rfl)
    (he : starEach [.Call (.Name "zip" q) [a, b] [] pos2] X.env = (false, eval (.Call (.Name "zip" q) [a, b] [] pos2) X.env) :: starEach [] X.env := by rfl) (hpl2 : (backTo pos (starEach [] X.env)).any (·.1) = false := by rfl) :
    PE X (.Call (.Name "list" p) [.Call (.Name "zip" q) [a, b] [] pos2] [] pos) (tLZ K ta) := by
  subst hK
  intro pins s σ H Q I h
  refine Call_ (ld_blt I hg hm bo_list (PyProof.Rows.callWith_type1 ?_ he hpl2))
  rw [he]
  show wpAny _ _ (spliced ((false, eval (.Call (.Name "zip" q) [a, b] [] pos2) X.env) :: backTo pos (starEach [] X.env))) _ _ s
  refine Calls.spliced_cons (Call_ (ld_blt I hg2 hm2 bo_zip (PyProof.Rows.callWith_type1 (thn (ha pos2 pins s σ H _ I h) fun us s1 ⟨vs, H1, I1, r1, q1⟩ => ?_) hs hpl)))
  obtain ⟨a1, b1, us1, ws1, e, hq1, hq2, hlen, hz, fin⟩ := q1
  subst e
  obtain ⟨u1, u2, rfl, ru1, ru2⟩ := Vals.two r1
  cases ru1
  cases ru2
  obtain ⟨its1, rv1, pl1, hz1⟩ := I1.list hq1
  obtain ⟨its2, rv2, pl2, hz2⟩ := I1.list hq2
  have b1' : a1 < s1.heap.objs.size := by obtain ⟨_, e, _⟩ := pl1.isList; exact Heap.lt_size e
  have b2' : b1 < s1.heap.objs.size := by obtain ⟨_, e, _⟩ := pl2.isList; exact Heap.lt_size e
  refine call_zip_2 pl1.isList pl2.isList fun h' z1 z2 z3 z4 z5 zs zk => ?_
  show wpAny _ _ (spliced (backTo pos (starEach [] X.env))) _ _ _
  refine Calls.spliced_nil ?_
  have D := zipApart_new b1' b2'
  refine zl_call (I.ok.hd hc) D z1 z2 ⟨_, _, z3⟩ z4 z5 (pl1.isList.at fun o e => zk _ o e) (pl2.isList.at fun o e => zk _ o e) ?_ ?_ fun h2 tk acc c as k2 hS hl G hacc => ?_
  · rw [List.size_toArray, List.size_toArray, ← rv1.length, ← rv2.length]; exact hlen
  · rw [List.size_toArray, ← rv1.length]; exact hz1
  have hS' : h2.get? h'.objs.size = some { cls := .type "list", data := .seq acc c } := hS
  have k2' : ∀ b o, s1.heap.get? b = some o → h2.get? b = some o := fun b o e => by
    have lt := Heap.lt_size e
    exact k2 b o (Nat.ne_of_lt (Nat.lt_of_lt_of_le lt (Nat.le_add_right _ 4))) (Nat.ne_of_lt (Nat.lt_of_lt_of_le lt (Nat.le_add_right _ 3))) (Nat.ne_of_lt lt) (Nat.ne_of_lt (Nat.lt_of_lt_of_le lt (Nat.le_add_right _ 1))) (zk b o e)
  have ael : as.length = us1.length := by rw [hl, List.size_toArray, ← rv1.length]
  have above : ∀ b ∈ as, h'.objs.size < b := G.above
  have lo1 : s1.heap.objs.size ≤ h'.objs.size := by rw [zs]; exact Nat.le_add_right _ 5
  have eacc : acc = (as.map Value.ref).toArray := by rw [← hacc, Array.toArray_toList]
  have nL : ∀ b, b ∈ as → b ≠ h'.objs.size := fun b hb => Nat.ne_of_gt (above b hb)
  have gt : ∀ (k : Nat) (x y : V), us1[k]? = some x → ws1[k]? = some y → ∃ t : Addr, (as.map V.ref)[k]? = some (.ref t) ∧ as[k]? = some t ∧ tupsAt as (List.zipWith (fun x y => [x, y]) us1 ws1) t = some (.tup [x, y]) := fun k x y e1 e2 => by
    have hk : k < as.length := by rw [ael]; exact (List.getElem?_eq_some_iff.mp e1).1
    have hk' : as[k]? = some as[k] := List.getElem?_eq_getElem hk
    refine ⟨as[k], by rw [List.getElem?_map, hk']; rfl, hk', tupsAt_get G.nd hk' ?_⟩
    rw [List.getElem?_zipWith, e1, e2]
  have IN := I1.laidN (New := fun b => if b = h'.objs.size then some (.lst (as.map V.ref)) else tupsAt as (List.zipWith (fun x y => [x, y]) us1 ws1) b) (t' := tk) k2' (fun b o e => by
    by_cases eb : b = h'.objs.size
    · subst eb
      have e' : some (HO.lst (as.map V.ref)) = some o := by rw [← e]; exact (if_pos rfl).symm
      cases e'
      refine ⟨lo1, by rw [List.length_map, ael]; exact hz1, as.map Value.ref, c, vals_refs as, ?_⟩
      rw [hS', eacc]
    · have e' : tupsAt as (List.zipWith (fun x y => [x, y]) us1 ws1) b = some o := by rw [← e]; exact (if_neg eb).symm
      obtain ⟨j, p, h1, h2', rfl⟩ := tupsAt_of e'
      obtain ⟨x, y, q1, q2, q3⟩ := G.pair j b h1
      have hj : j < us1.length := by rw [← ael]; exact (List.getElem?_eq_some_iff.mp h1).1
      have u1 : us1[j]? = some us1[j] := List.getElem?_eq_getElem hj
      have u2 : ws1[j]? = some (ws1[j]'(by omega)) := List.getElem?_eq_getElem _
      obtain ⟨v1, g1, f1⟩ := rv1.get u1
      obtain ⟨v2, g2, f2⟩ := rv2.get u2
      rw [List.getElem?_toArray, g1] at q1
      rw [List.getElem?_toArray, g2] at q2
      cases q1
      cases q2
      rw [List.getElem?_zipWith, u1, u2] at h2'
      cases h2'
      exact ⟨Nat.le_trans lo1 (Nat.le_of_lt (above b (List.mem_of_getElem? h1))), le_size (by show 2 ≤ 1000; decide), [_, _], .cons f1 (.cons f2 .nil), _, q3, rfl, _, rfl⟩)
  refine ⟨.ref h'.objs.size, _, IN, rfl, fin h'.objs.size (as.map V.ref) _ (I1.hok.fresh lo1) (fun b o e => ?_) ?_ (by rw [List.length_map, ael]) fun k x y e1 e2 => ?_⟩
  · refine lay_old (fun b o e => I1.hok.fresh ?_) e
    by_cases eb : b = h'.objs.size
    · rw [eb]; exact lo1
    · have e' : tupsAt as (List.zipWith (fun x y => [x, y]) us1 ws1) b = some o := by rw [← e]; exact (if_neg eb).symm
      obtain ⟨j, p, h1, _⟩ := tupsAt_of e'
      exact Nat.le_trans lo1 (Nat.le_of_lt (above b (List.mem_of_getElem? h1)))
  · exact lay_some (if_pos rfl)
  · obtain ⟨t, e3, e4, e5⟩ := gt k x y e1 e2
    exact ⟨t, e3, lay_some ((if_neg (nL t (List.mem_of_getElem? e4))).trans e5)⟩
end L2
set_option Elab.async false
set_option linter.all false
set_option maxRecDepth 100000
set_option maxHeartbeats 1000000
namespace L2
open PySem PySem.Spec
def rowD (rs : List (List Int)) (d : Wd) : List Int := List.zipWith (fun x y => mvI d.s x + sgW d.w * mvI d.t y) (rs.getD d.a []) (rs.getD d.b [])
def rowsW (ins : Nat) (ds : List Wd) : List (List Int) := ds.foldl (fun rs d => rs ++ [rowD rs d]) ((List.range ins).map (unitRow ins))
theorem rowsW_snoc (ins : Nat) (ds : List Wd) (d : Wd) : rowsW ins (ds ++ [d]) = rowsW ins ds ++ [rowD (rowsW ins ds) d] := by unfold rowsW; rw [List.foldl_append]; rfl
theorem rowsW_len (ins : Nat) (ds : List Wd) : (rowsW ins ds).length = ins + ds.length := by
  refine snoc_ind (p := fun ds => (rowsW ins ds).length = ins + ds.length) ?_ (fun xs x ih => ?_) ds
  · unfold rowsW; simp
  · rw [rowsW_snoc, List.length_append, ih]; simp; omega
theorem rowsW_pre (ins : Nat) (ds new : List Wd) {k : Nat} {r : List Int} (h : (rowsW ins ds)[k]? = some r) : (rowsW ins (ds ++ new))[k]? = some r := by
  refine snoc_ind (p := fun new => (rowsW ins (ds ++ new))[k]? = some r) (by rw [List.append_nil]; exact h) (fun xs x ih => ?_) new
  rw [← List.append_assoc, rowsW_snoc, List.getElem?_append_left (List.getElem?_eq_some_iff.mp ih).1]
  exact ih
theorem getD_of {α : Type} {xs : List α} {k : Nat} {x d : α} (h : xs[k]? = some x) : xs.getD k d = x := by rw [List.getD_eq_getElem?_getD, h]; rfl
def Dv (s : Int) (r : List Int) : Prop := s < 0 → ∀ x ∈ r, (2 : Int) ^ (-s).toNat ∣ x
def Sh (s : Int) (r : List Int) : Prop := -40 ≤ s ∧ s ≤ 40 ∧ Dv s r
def ShOk (ins : Nat) (ds : List Wd) : Prop := ∀ (k : Nat) (d : Wd), ds[k]? = some d → d.a < ins + k ∧ d.b < ins + k ∧ Sh d.s ((rowsW ins ds).getD d.a []) ∧ Sh d.t ((rowsW ins ds).getD d.b [])
theorem rows_stay (ins : Nat) (ds : List Wd) (d : Wd) {j : Nat} (h : j < ins + ds.length) : (rowsW ins (ds ++ [d])).getD j [] = (rowsW ins ds).getD j [] := by
  have hj : j < (rowsW ins ds).length := by rw [rowsW_len]; exact h
  have e := List.getElem?_eq_getElem hj
  rw [getD_of e, getD_of (rowsW_pre ins ds [d] e)]
theorem ShOk.snoc {ins : Nat} {ds : List Wd} {d : Wd} (h : ShOk ins ds) (h1 : d.a < ins + ds.length) (h2 : d.b < ins + ds.length) (h3 : Sh d.s ((rowsW ins ds).getD d.a [])) (h4 : Sh d.t ((rowsW ins ds).getD d.b [])) : ShOk ins (ds ++ [d]) := fun k e he => by
  rcases get_snoc he with ⟨hk, z⟩ | ⟨hk, rfl⟩
  · obtain ⟨a, b, c, f⟩ := h k e z
    rw [rows_stay ins ds d (by omega), rows_stay ins ds d (by omega)]
    exact ⟨a, b, c, f⟩
  · rw [rows_stay ins ds _ h1, rows_stay ins ds _ h2, hk]
    exact ⟨h1, h2, h3, h4⟩
def GoOk (ins : Nat) (ds : List Wd) (gs : List Go) : Prop := ∀ g ∈ gs, g = ⟨0, 0, 0⟩ ∨ ((g.sg = 1 ∨ g.sg = -1) ∧ Sh g.sh ((rowsW ins ds).getD g.th []))
structure FWeb (ins : Nat) (ds : List Wd) (gs : List Go) : Prop where
  ok : WebOk ins ds gs
  sh : ShOk ins ds
  go : GoOk ins ds gs
  rb : RB (41 * ds.length) (rowsW ins ds)
  wd : ∀ r ∈ rowsW ins ds, r.length = ins
theorem WI.stepL {H : Hp} {p : Addr} {ins : Nat} {tb dl : Addr} {k : Nat} {vs us xs : List V} {rs : List (List Int)} {ds : List Wd} {H' H'' : Hp} (h : WI H p ins tb dl k vs us rs ds H') (hp : H' p = some (.lst xs)) (C : Chg p H' H'') : WI H p ins tb dl k vs us rs ds H'' :=
  { h with tbl := C _ _ h.tp h.tbl, hrs := h.hrs.chg (by simp) C, dll := C _ _ h.dp h.dll, hds := h.hds.chgL hp C, chg := h.chg.trans C }
structure FI (H : Hp) (p : Addr) (ins : Nat) (tb dl : Addr) (k : Nat) (vs us : List V) (ds : List Wd) (H' : Hp) : Prop where
  wi : WI H p ins tb dl k vs us (rowsW ins ds) ds H'
  sh : ShOk ins ds
theorem FI.step {H : Hp} {p : Addr} {c : Int} {ins : Nat} {tb dl : Addr} {k : Nat} {vs us : List V} {ds : List Wd} {H' H'' : Hp} (h : FI H p ins tb dl k vs us ds H') (F : Feed H' p c) (C : Chg p H' H'') : FI H p ins tb dl k vs us ds H'' := by
  obtain ⟨xs, hp⟩ := F.lst
  exact ⟨h.wi.stepL hp C, h.sh⟩
theorem row_of {H' : Hp} {ex : List Addr} {vs : List V} {rs : List (List Int)} (h : HRs H' ex vs rs) {j : Nat} (hj : j < rs.length) : ∃ (l : Addr) (r : List Int), rs[j]? = some r ∧ atI vs (j : Int) = some (.ref l) ∧ H' l = some (.lst (r.map V.int)) ∧ r ∈ rs ∧ ∀ e ∈ ex, l ≠ e := by
  obtain ⟨l, e1, e2, e3⟩ := h.at_ j _ (List.getElem?_eq_getElem hj)
  exact ⟨l, rs[j], List.getElem?_eq_getElem hj, atI_nat e1, e2, List.getElem_mem hj, e3⟩
theorem FI.app {H : Hp} {p : Addr} {ins : Nat} {tb dl : Addr} {k : Nat} {vs us : List V} {ds : List Wd} {H' H1 H3 : Hp} (h : FI H p ins tb dl k vs us ds H') (hi : ins ≤ 12) {d : Wd} {x : Addr} (s1 : Same H' H1) (hx : H1 x = some (.tup (wTup d)))
    (s3 : Same (upd H1 dl (.lst (us ++ [.ref x]))) H3) {l : Addr} (hl : H3 l = some (.lst ((rowD (rowsW ins ds) d).map V.int))) (nl : (upd H1 dl (.lst (us ++ [.ref x]))) l = none) (lp : l ≠ p) (h1 : d.a < ins + k) (h2 : d.b < ins + k) (hw : d.w = "sum" ∨ d.w = "less")
    (h3 : Sh d.s ((rowsW ins ds).getD d.a [])) (h4 : Sh d.t ((rowsW ins ds).getD d.b [])) (hr : (rowD (rowsW ins ds) d).length = ins) (hb : ∀ x ∈ rowD (rowsW ins ds) d, x.natAbs ≤ 2 ^ (41 * (k + 1))) :
    FI H p ins tb dl (k + 1) (vs ++ [.ref l]) (us ++ [.ref x]) (ds ++ [d]) (upd H3 tb (.lst (vs ++ [.ref l]))) := by
  have wi := h.wi
  have d1 := s1 _ _ wi.dll
  have t1 := s1 _ _ wi.tbl
  have t2 : (upd H1 dl (.lst (us ++ [.ref x]))) tb = some (.lst vs) := by rw [upd_ne wi.td]; exact t1
  have t3 := s3 _ _ t2
  have d3 := s3 dl _ upd_same
  have ltb : l ≠ tb := (ne_of_none t2 nl).symm
  have ldl : l ≠ dl := by
    intro z
    rw [z, upd_same] at nl
    cases nl
  have r3 : HRs H3 [dl, tb, p] vs (rowsW ins ds) := ((wi.hrs.same s1).chg (l := dl) (by simp) (Chg.upd _)).same s3
  have nx : x ≠ dl := ne_of hx d1 (by intro z; cases z)
  have hd2 : HTs wTup (upd H1 dl (.lst (us ++ [.ref x]))) (us ++ [.ref x]) (ds ++ [d]) := ((wi.hds.same s1).chgL d1 (Chg.upd _)).snoc (by rw [upd_ne nx]; exact hx)
  have hd3 := (hd2.same s3).chgL t3 (Chg.upd (.lst (vs ++ [.ref l])))
  have dlen : (ds ++ [d]).length = k + 1 := by simp [wi.dlen]
  refine ⟨⟨upd_same, ?_, ?_, ?_, ?_, ?_, hd3, dlen, fun j e he => ?_, ?_, wi.ntb, wi.ndl, wi.tp, wi.dp, wi.td⟩, h.sh.snoc (by rw [wi.dlen]; exact h1) (by rw [wi.dlen]; exact h2) h3 h4⟩
  · rw [rowsW_snoc]
    refine (r3.chg (l := tb) (by simp) (Chg.upd _)).snoc (by rw [upd_ne ltb]; exact hl) fun e he => ?_
    simp only [List.mem_cons, List.not_mem_nil, or_false] at he
    rcases he with z | z | z <;> subst z <;> assumption
  · rw [rowsW_len, dlen]
  · rw [rowsW_snoc]
    exact wi.rb.snoc (by omega) (by omega) hb
  · intro q hq
    rw [rowsW_snoc] at hq
    rcases List.mem_append.mp hq with z | z
    · exact wi.rw_ q z
    · rw [List.mem_singleton.mp z]; exact hr
  · rw [upd_ne wi.td.symm]; exact d3
  · rcases get_snoc he with ⟨hj, z⟩ | ⟨hj, rfl⟩
    · exact wi.dk j e z
    · rw [hj, wi.dlen]; exact ⟨h1, h2, hw⟩
  · exact Chg.updN (((wi.chg.trans s1.chg).updN wi.ndl).trans s3.chg) wi.ntb
theorem rowD_bound {rs : List (List Int)} {d : Wd} {k ins : Nat} (h : RB (41 * k) rs) (hw : ∀ r ∈ rs, r.length = ins) (ha : d.a < rs.length) (hb : d.b < rs.length) (s0 : -40 ≤ d.s) (s1 : d.s ≤ 40) (t0 : -40 ≤ d.t) (t1 : d.t ≤ 40) :
    (rowD rs d).length = ins ∧ ∀ x ∈ rowD rs d, x.natAbs ≤ 2 ^ (41 * (k + 1)) := by
  have ea := getD_of (d := []) (List.getElem?_eq_getElem ha)
  have eb := getD_of (d := []) (List.getElem?_eq_getElem hb)
  have ma := List.getElem_mem ha
  have mb := List.getElem_mem hb
  unfold rowD
  rw [ea, eb]
  refine ⟨by rw [List.length_zipWith, hw _ ma, hw _ mb]; omega, fun x hx => ?_⟩
  obtain ⟨i, hi⟩ := List.getElem?_of_mem hx
  rw [List.getElem?_zipWith] at hi
  cases h1 : rs[d.a][i]? with
  | none => rw [h1] at hi; cases hi
  | some u =>
    cases h2 : rs[d.b][i]? with
    | none => rw [h1, h2] at hi; cases hi
    | some v =>
      rw [h1, h2] at hi
      cases hi
      have b1 := mvI_bound s0 s1 ((h _ ma).2 u (List.mem_of_getElem? h1))
      have b2 := mvI_bound t0 t1 ((h _ mb).2 v (List.mem_of_getElem? h2))
      have pw : 2 ^ (41 * (k + 1)) = 2 ^ (41 * k + 40) + 2 ^ (41 * k + 40) := by
        rw [show 41 * (k + 1) = 41 * k + 40 + 1 by omega, Nat.pow_succ]; omega
      rw [pw]
      have hg : sgW d.w = 1 ∨ sgW d.w = -1 := by
        unfold sgW
        split
        · exact .inr rfl
        · exact .inl rfl
      have := abs_le_of (g := 1) (h := sgW d.w) (.inl rfl) hg b1 b2
      rw [Int.one_mul] at this
      exact this
section
variable {K : PySem.W.Frag} {σ : St} {H : Hp} {Q : VK} {cs : List Nat} {te : TE}
theorem comp_pairs {l : Addr} {zs : List V} {xs ys : List Int} (hl : H l = some (.lst zs)) (hlen : zs.length = xs.length) (hlen2 : ys.length = xs.length) (hz : xs.length ≤ 1000)
    (ht : ∀ (k : Nat) (x y : Int), xs[k]? = some x → ys[k]? = some y → ∃ t : Addr, zs[k]? = some (.ref t) ∧ H t = some (.tup [.int x, .int y])) (f : Int → Int → Int)
    (hb : ∀ x y H' (R : VK), Same H H' → R (.int (f x y)) H' → te ([some (.int x), some (.int y)] ++ capV cs σ) H' R)
    (hd : ∀ acc H', H acc = none → Same H H' → H' acc = some (.lst ((List.zipWith f xs ys).map V.int)) → Q (.ref acc) H') :
    CompIt (Itl K l) 2 cs (gTupM 2 (gCons (gName 0) (gCons (gName 1) gNil))) tYes te σ H Q := by
  refine comp_any xs.length (fun acc i ws H' => Same H H' ∧ H' acc = some (.lst ws) ∧ ws = ((List.zipWith f xs ys).take i).map V.int) (le_size hz) ?_ ?_ ?_ ?_ ?_ ?_
  · rintro acc i ws H' hi ⟨s, _, _⟩
    exact ⟨zs, zs[i]'(by omega), SqL.of (s _ _ hl), List.getElem?_eq_getElem _⟩
  · rintro acc ws H' ⟨s, _, _⟩
    exact ⟨zs, SqL.of (s _ _ hl), by omega⟩
  · intro acc ha
    exact ⟨same_new ha _, upd_same, rfl⟩
  · rintro acc i ws H' ⟨s, ha, rfl⟩
    exact ⟨ha, by rw [List.length_map, List.length_take]; omega⟩
  · rintro acc i ws H' ts v H2 N hn hi ⟨s, ha, hws⟩ y hts hN
    obtain ⟨e, hx0⟩ := y
    have hx := hx0 zs (SqL.of (s _ _ hl))
    clear hx0
    subst e
    have e1 : xs[i]? = some xs[i] := List.getElem?_eq_getElem hi
    have e2 : ys[i]? = some (ys[i]'(by omega)) := List.getElem?_eq_getElem _
    obtain ⟨t, q1, q2⟩ := ht i _ _ e1 e2
    generalize xs[i] = x at e1 q2
    generalize (ys[i]'(by omega)) = y at e2 q2
    rw [hx] at q1
    cases q1
    obtain ⟨t0, t1, rfl⟩ : ∃ t0 t1, ts = [t0, t1] := by
      match ts, hts with
      | [a, b], _ => exact ⟨a, b, rfl⟩
    rw [w_gTupM]
    refine ⟨_, s _ _ q2, rfl, ?_⟩
    rw [w_gCons, w_gName, w_gCons, w_gName, w_gNil, w_yes, if_pos rfl]
    refine hb x y _ _ s ⟨ha, hN _ [_, _] _ rfl ⟨same_upd hn s, upd_same, ?_⟩⟩
    have ez : (List.zipWith f xs ys)[i]? = some (f x y) := by rw [List.getElem?_zipWith, e1, e2]
    rw [List.take_add_one, ez, List.map_append, ← hws]
    rfl
  · rintro acc ws H' hn ⟨s, ha, hws⟩
    rw [List.take_of_length_le (by rw [List.length_zipWith]; omega)] at hws
    subst hws
    exact hd acc H' hn s ha
end
def spFPick : Sp := fun vs H Q _ => ∃ (p : Addr) (m c : Int), vs = [.ref p, .int m] ∧ Feed H p c ∧ c ≤ 800000000 ∧ 1 ≤ m ∧ m ≤ 1000 ∧ ∀ (r : Int) H', 0 ≤ r → r < m → Feed H' p (c + 2048) → Chg p H H' → Q (.int r) H'
def spFShift : Sp := fun vs H Q _ => ∃ (p l : Addr) (c : Int) (xs : List Int), vs = [.ref p, .ref l] ∧ Feed H p c ∧ c ≤ 800000000 ∧ H l = some (.lst (xs.map V.int)) ∧ xs.length ≤ 100 ∧ l ≠ p ∧
  ∀ (r : Int) H', Sh r xs → Feed H' p (c + 2048) → Chg p H H' → Q (.int r) H'
def spFWeb : Sp := fun vs H Q _ => ∃ (p : Addr) (c most : Int), vs = [.ref p, .int most] ∧ Feed H p c ∧ c ≤ 100000000 ∧ 0 ≤ most ∧ most ≤ 60 ∧
  ∀ (t w dl gl tb : Addr) (ins : Nat) (us : List V) (ds : List Wd) (os : List V) (gs : List Go) (ts : List V) H', H t = none → H w = none → H dl = none → H gl = none → H tb = none → dl ≠ gl → tb ≠ dl → tb ≠ gl → H' t = some (.tup [.ref w, .ref tb]) → Wb H' w dl gl ins us ds os gs → FWeb ins ds gs →
    H' tb = some (.lst ts) → HRs H' [gl, dl, tb, p] ts (rowsW ins ds) → (ds.length : Int) ≤ most → Feed H' p (c + 1000000) → Chg p H H' → Q (.ref t) H'
theorem mvI_up {s n : Int} (h : 0 ≤ s) : mvI s n = n * 2 ^ s.toNat := by
  unfold mvI
  rw [if_neg (by omega)]
  by_cases z : 0 > 0 - s
  · rw [if_pos z]; simp
  · rw [if_neg z, show s = 0 by omega]; simp
theorem mvI_down {s n : Int} (h : s < 0) : mvI s n = n / 2 ^ (-s).toNat := by
  unfold mvI
  rw [if_pos (by omega), if_neg (by omega), show (0 - s) = -s by omega]
  simp
structure FG (H : Hp) (p : Addr) (ins : Nat) (tb dl gl : Addr) (k : Nat) (vs us os : List V) (ds : List Wd) (gs : List Go) (H' : Hp) : Prop where
  wg : WG H p ins tb dl gl k vs us os (rowsW ins ds) ds gs H'
  sh : ShOk ins ds
  go : GoOk ins ds gs
theorem FG.step {H : Hp} {p : Addr} {c : Int} {ins : Nat} {tb dl gl : Addr} {k : Nat} {vs us os : List V} {ds : List Wd} {gs : List Go} {H' H'' : Hp} (h : FG H p ins tb dl gl k vs us os ds gs H') (F : Feed H' p c) (C : Chg p H' H'') : FG H p ins tb dl gl k vs us os ds gs H'' := by
  obtain ⟨xs, hp⟩ := F.lst
  exact ⟨{ h.wg with wi := h.wg.wi.stepL hp C, hrs := h.wg.hrs.chg (by simp) C, gll := C _ _ h.wg.gp h.wg.gll, hgs := h.wg.hgs.chgL hp C }, h.sh, h.go⟩
theorem FG.app {H : Hp} {p : Addr} {ins : Nat} {tb dl gl : Addr} {k : Nat} {vs us os : List V} {ds : List Wd} {gs : List Go} {H' : Hp} (h : FG H p ins tb dl gl k vs us os ds gs H') {x : Addr} {g : Go}
    (hx : H' x = some (.tup (gTp g))) (hg : g.th < ins + k) (hs : g = ⟨0, 0, 0⟩ ∨ ((g.sg = 1 ∨ g.sg = -1) ∧ Sh g.sh ((rowsW ins ds).getD g.th []))) : FG H p ins tb dl gl k vs us (os ++ [.ref x]) ds (gs ++ [g]) (upd H' gl (.lst (os ++ [.ref x]))) := by
  refine ⟨h.wg.app hx hg, h.sh, fun e he => ?_⟩
  rcases List.mem_append.mp he with z | z
  · exact h.go e z
  · rw [List.mem_singleton.mp z]; exact hs
end L2
set_option Elab.async false
set_option linter.all false
set_option maxRecDepth 100000
set_option maxHeartbeats 1000000
namespace L2
open PySem PySem.Spec
section
variable {K : PySem.W.Frag} {σ : St} {H : Hp} {Q : VK} {cs : List Nat} {te : TE}
theorem comp_tups {J : It} {α : Type} {f : α → List V} {xs : List V} (zs : List α) (hzl : zs.length = xs.length) (hz : xs.length ≤ 1000)
    (hJ : ∀ H', Same H H' → (∀ i, i < xs.length → J.go i H') ∧ (∀ i x H2, J.yld i H' x H2 → H2 = H' ∧ (i < xs.length → xs[i]? = some x)) ∧ J.stop xs.length H')
    (hb : ∀ (i : Nat) x z H' (R : VK), xs[i]? = some x → zs[i]? = some z → Same H H' → (∀ r H5, H' r = none → Same H' H5 → H5 r = some (.tup (f z)) → R (.ref r) H5) → te (some x :: capV cs σ) H' R)
    (hd : ∀ acc ys H', H acc = none → Same H H' → H' acc = some (.lst ys) → HTs f H' ys zs → Q (.ref acc) H') :
    CompIt J 1 cs (gName 0) tYes te σ H Q := by
  refine comp_any xs.length (fun acc i ws H' => Same H H' ∧ H' acc = some (.lst ws) ∧ HTs f H' ws (zs.take i)) (le_size hz) ?_ ?_ ?_ ?_ ?_ ?_
  · rintro acc i ws H' hi ⟨s, _, _⟩
    exact (hJ _ s).1 i hi
  · rintro acc ws H' ⟨s, _, _⟩
    exact (hJ _ s).2.2
  · intro acc ha
    exact ⟨same_new ha _, upd_same, hts_nil⟩
  · rintro acc i ws H' ⟨s, ha, ht⟩
    exact ⟨ha, by rw [ht.len, List.length_take]; omega⟩
  · rintro acc i ws H' ts v H2 N hn hi ⟨s, ha, ht⟩ y hts hN
    obtain ⟨e, hx⟩ := (hJ _ s).2.1 i v H2 y
    have hx := hx hi
    subst e
    obtain ⟨t0, rfl⟩ : ∃ t0, ts = [t0] := by
      match ts, hts with
      | [a], _ => exact ⟨a, rfl⟩
    have hz' : zs[i]? = some (zs[i]'(by omega)) := List.getElem?_eq_getElem _
    generalize (zs[i]'(by omega)) = z at hz'
    rw [w_gName, w_yes, if_pos rfl]
    refine hb i v z _ _ hx hz' s fun r H5 hr s5 h5 => ?_
    have ha5 := s5 _ _ ha
    refine ⟨ha5, hN _ [_] _ rfl ⟨same_upd hn (s.trans s5), upd_same, ?_⟩⟩
    have tk : zs.take (i + 1) = zs.take i ++ [z] := by rw [List.take_add_one, hz']; rfl
    rw [tk]
    exact ((ht.same s5).chgL ha5 (Chg.upd _)).snoc (by rw [upd_ne (ne_of h5 ha5 (by intro z; cases z))]; exact h5)
  · rintro acc ws H' hn ⟨s, ha, ht⟩
    rw [List.take_of_length_le (by omega)] at ht
    exact hd acc ws H' hn s ha ht
end
end L2
set_option Elab.async false
set_option linter.all false
set_option maxRecDepth 100000
set_option maxHeartbeats 1000000
namespace L2
open PySem PySem.Spec
end L2
set_option Elab.async false
set_option linter.all false
set_option maxRecDepth 100000
set_option maxHeartbeats 1000000
namespace L2
open PySem PySem.Spec
section
variable {α : Type} {f : α → List V} {K : PySem.W.Frag} {H : Hp} {l l' : Addr} {ys ys' : List V} {xs : List α} {Q : VK}
end
def lrDt (rs : List (List Int)) : Dt := .l (rs.map fun r => .l ((r.map V.int).map Dt.f))
theorem hrs_isL {K : PySem.W.Frag} {H : Hp} {ex : List Addr} : ∀ {rs : List (List Int)} {vs : List V}, HRs H ex vs rs → IsL K H vs (rs.map fun r => .l ((r.map V.int).map Dt.f))
  | [], vs, h => by
    have : vs = [] := List.eq_nil_of_length_eq_zero h.len
    subst this
    rw [List.map_nil, IsL]
  | r :: rs, vs, h => by
    obtain ⟨p, h1, h2, h3⟩ := h.at_ 0 r rfl
    cases vs with
    | nil => cases h1
    | cons v vs =>
      cases h1
      rw [List.map_cons, IsL]
      refine ⟨_, _, rfl, is_lst (SqL.of h2) (flat_ints r), hrs_isL (ex := ex) ⟨by have := h.len; simpa using this, fun k x hx => ?_⟩⟩
      exact h.at_ (k + 1) x hx
theorem depL_lr : ∀ (rs : List (List Int)), depL (rs.map fun r => .l ((r.map V.int).map Dt.f)) ≤ 1
  | [] => by rw [List.map_nil, depL]; decide
  | a :: r => by
    rw [List.map_cons, depL, dep_l]
    have := depL_lr r
    omega
theorem lr_is {K : PySem.W.Frag} {H : Hp} {ex : List Addr} {l : Addr} {vs : List V} {rs : List (List Int)} (h : H l = some (.lst vs)) (hr : HRs H ex vs rs) : Is K H (.ref l) (lrDt rs) := by
  unfold lrDt
  rw [Is]
  exact ⟨l, vs, rfl, SqL.of h, hrs_isL hr⟩
end L2
set_option Elab.async false
set_option linter.all false
set_option maxRecDepth 100000
set_option maxHeartbeats 1000000
namespace L2
open PySem PySem.Spec PyProof.Rows
def tLR (ta : TA) : TE := fun σ H Q => ta σ H fun vs H1 => ∃ j : Nat, vs = [.int (j : Int)] ∧ j ≤ 1000 ∧ ∀ l H', H1 l = none → Same H1 H' → H' l = some (.lst (rngV 0 j)) → Q (.ref l) H'
theorem w_LR {ta : TA} {σ : St} {H : Hp} {Q : VK} : tLR ta σ H Q = (ta σ H fun vs H1 => ∃ j : Nat, vs = [.int (j : Int)] ∧ j ≤ 1000 ∧ ∀ l H', H1 l = none → Same H1 H' → H' l = some (.lst (rngV 0 j)) → Q (.ref l) H') := rfl
theorem vals_rng : ∀ (n k : Nat) (us : List Value), us.length = n → (∀ (j : Nat) (v : Value), us[j]? = some v → ∃ t, v = .int (0 + ((k + j : Nat) : Int) * 1) t) → Vals ((List.range' k n).map fun (i : Nat) => V.int (0 + (i : Int))) us
  | 0, k, us, hl, _ => by
    have : us = [] := List.eq_nil_of_length_eq_zero hl
    subst this
    exact .nil
  | n + 1, k, us, hl, hv => by
    cases us with
    | nil => cases hl
    | cons u us =>
      obtain ⟨t, e⟩ := hv 0 u rfl
      rw [List.range'_succ, List.map_cons]
      refine .cons ⟨t, by rw [e, Nat.add_zero, Int.mul_one]⟩ (vals_rng n (k + 1) us (by simpa using hl) fun j v h => ?_)
      obtain ⟨t, e⟩ := hv (j + 1) v h
      exact ⟨t, by rw [e, show k + (j + 1) = k + 1 + j by omega]⟩
theorem pe_listrange {X : Cx} {a : Expr} {ta : TA} {p q pos pos2 : Pos} (hc : X.calm = true) (hg : Gl X "list") (hm : X.mg "list" = none) (hg2 : Gl X "range") (hm2 : X.mg "range" = none) (ha : PA X [a] ta) (hs : starEach [a] X.env = [(false, eval a X.env)] := by rfl)
    (he : starEach [.Call (.Name "range" q) [a] [] pos2] X.env = (false, eval (.Call (.Name "range" q) [a] [] pos2) X.env) :: starEach [] X.env := by rfl) (hpl2 : (backTo pos (starEach [] X.env)).any (·.1) = false := by rfl) :
    PE X (.Call (.Name "list" p) [.Call (.Name "range" q) [a] [] pos2] [] pos) (tLR ta) := by
  intro pins s σ H Q I h
  refine Call_ (ld_blt I hg hm bo_list (PyProof.Rows.callWith_type1 ?_ he hpl2))
  rw [he]
  show wpAny _ _ (spliced ((false, eval (.Call (.Name "range" q) [a] [] pos2) X.env) :: backTo pos (starEach [] X.env))) _ _ s
  refine Calls.spliced_cons (Call_ (ld_blt I hg2 hm2 boot_range (PyProof.Rows.callWith_type1 (thn (ha pos2 pins s σ H _ I h) fun us s1 ⟨vs, H1, I1, r1, q1⟩ => ?_) hs rfl)))
  obtain ⟨j, e, hj, fin⟩ := q1
  subst e
  obtain ⟨u, rfl, ru⟩ := Vals.one r1
  obtain ⟨t, rfl⟩ := ru
  refine call_range_1 ?_
  show wpAny _ _ (spliced (backTo pos (starEach [] X.env))) _ _ _
  refine Calls.spliced_nil ?_
  have hsz : Builtin.Range.rangeSize 0 (j : Int) 1 = j := by
    unfold Builtin.Range.rangeSize
    rw [if_pos (by decide)]
    split <;> omega
  refine call_list_range (n := j) (I.ok.hd hc) (IsRange.new ..) ?_ hsz (by omega) fun h' tk acc c k' hS hit => ?_
  · exact small_one (by decide) (by decide) (by omega) (by omega)
  have k2 : ∀ b o, s1.heap.get? b = some o → h'.get? b = some o := fun b o e => k' b o (Heap.get?_push_of_some _ e)
  have lo : s1.heap.objs.size ≤ (s1.heap.push { cls := .type "range", data := .fields #[.int 0 s1.toks, .int (j : Int) t, .int 1 (s1.toks + 1)] }).objs.size := by rw [Heap.size_push]; exact Nat.le_succ _
  have rv : Vals (rngV 0 j) acc.toList := by
    have := vals_rng j 0 acc.toList (by rw [Array.length_toList]; exact hit.1) fun i v hv => by
      obtain ⟨t, e⟩ := hit.2 i v (by rw [← hv, Array.getElem?_toList])
      exact ⟨t, by rw [e, Nat.zero_add]⟩
    rw [← List.range_eq_range'] at this
    exact this
  have hn := I1.hok.fresh lo
  have IN := I1.laid (h' := h') (t' := tk) (o := .lst (rngV 0 j)) k2 lo ⟨le_size (by rw [rngV_len]; exact hj), acc.toList, c, rv, by rw [Array.toArray_toList]; exact hS⟩
  exact ⟨.ref _, _, IN, rfl, fin _ _ hn (same_new hn _) upd_same⟩
def iRngD (ta : TA) : TI := fun σ H R => ta σ H fun vs H1 => ∃ i : Int, vs = [.int i, .int (-1), .int (-1)] ∧ (-1 ≤ i ∧ i < 2 ^ 31) ∧ R (Itr3 i (-1) (i + 1).toNat) H1
theorem size_down {i : Int} (h : -1 ≤ i) : Builtin.Range.rangeSize i (-1) (-1) = i + 1 := by
  unfold Builtin.Range.rangeSize
  rw [if_neg (by decide), show (- -1 : Int) = 1 by decide, Int.ediv_one]
  split <;> omega
theorem small_down {i : Int} (h : -1 ≤ i ∧ i < 2 ^ 31) : Builtin.Range.small i (-1) (-1) = true := by
  unfold Builtin.Range.small
  rw [size_down h.1]
  simp only [Builtin.Range.rangeFitsLong, Bool.and_eq_true, Bool.or_eq_true, decide_eq_true_eq, beq_iff_eq]
  exact ⟨⟨⟨⟨⟨by omega, by omega⟩, by omega, by omega⟩, by omega, by omega⟩, by omega, by omega⟩, .inr (by decide)⟩
theorem pi_rangeD {X : Cx} {tg : Expr} {a b c : Expr} {ta : TA} {p pos : Pos} (hg : Gl X "range") (hm : X.mg "range" = none) (ha : PA X [a, b, c] ta) (hs : starEach [a, b, c] X.env = (false, eval a X.env) :: starEach [b, c] X.env := by rfl) (hpl : (backTo pos (starEach [b, c] X.env)).any (·.1) = false := by rfl) :
    PI X tg (.Call (.Name "range" p) [a, b, c] [] pos) (iRngD ta) := by
  intro pins s σ H R I h
  refine Call_ (ld_blt I hg hm boot_range (PyProof.Rows.callWith_type1 (thn (ha pos pins s σ H _ I h) fun us s1 ⟨vs, H1, I1, r1, q1⟩ => ?_) hs hpl))
  obtain ⟨i, e, hi, q⟩ := q1
  subst e
  cases r1 with
  | cons r rr =>
    cases rr with
    | cons r' rr =>
      cases rr with
      | cons r3 rr =>
        cases rr
        obtain ⟨t, rfl⟩ := r
        obtain ⟨t', rfl⟩ := r'
        obtain ⟨t3, rfl⟩ := r3
        refine call_range_3 (by decide) ?_ (Or.inl (PyProof.noPylong_of_log2 (by decide +kernel)))
        refine wpAny_pyIter_range (IsRange.new ..) (small_down hi) ?_
        have I2 : Inv X pins σ H1 { s1 with heap := s1.heap.push { cls := .type "range", data := .fields #[.int i t, .int (-1) t', .int (-1) t3] }, toks := s1.toks } := I1.kept fun b o e => Heap.get?_push_of_some _ e
        refine ⟨(s1.heap.push { cls := .type "range", data := .fields #[.int i t, .int (-1) t', .int (-1) t3] }).objs.size, [(s1.heap.push { cls := .type "range", data := .fields #[.int i t, .int (-1) t', .int (-1) t3] }).objs.size], _, _, H1, rfl, I2.kept (t' := s1.toks) fun b o e => Heap.get?_push_of_some _ e, turn_range3 _ i (-1) (i + 1).toNat, ?_, fun b hb => ?_, q⟩
        · have e1 : i + ((0 : Nat) : Int) * (-1) = i := by omega
          have e2 : (((i + 1).toNat : Nat) : Int) - ((0 : Nat) : Int) = Builtin.Range.rangeSize i (-1) (-1) := by rw [size_down hi.1]; omega
          show IsRangeIter _ _ (i + ((0 : Nat) : Int) * (-1)) ((((i + 1).toNat : Nat) : Int) - ((0 : Nat) : Int)) (-1)
          rw [e1, e2]
          exact Heap.get?_push_size _ rfl
        · have e : b = (s1.heap.push { cls := .type "range", data := .fields #[.int i t, .int (-1) t', .int (-1) t3] }).objs.size := by simpa using hb
          subst e
          exact I2.fpOk (Nat.le_refl _) (I2.hok.fresh (Nat.le_refl _))
theorem w_forD {σ : St} {H : Hp} {D : Ends} {g : TG} {tb : TS} {ta : TA} : tFor (iRngD ta) g tb D σ H = (ta σ H fun vs H1 => ∃ i : Int, vs = [.int i, .int (-1), .int (-1)] ∧ (-1 ≤ i ∧ i < 2 ^ 31) ∧ ForR3 i (-1) (i + 1).toNat g tb D σ H1) := rfl
section
variable {K : PySem.W.Frag} {σ : St} {H : Hp} {Q : VK} {cs : List Nat} {te : TE}
end
end L2
set_option Elab.async false
set_option linter.all false
set_option maxRecDepth 100000
set_option maxHeartbeats 1000000
namespace L2
open PySem PySem.Spec PyProof.Rows
section
variable {prog : Program} {w : World} {A : Around} {E : Value → Shared → Prop} {s : Shared}
end
section
variable {prog : Program} {w : World} {A : Around} {E : Value → Shared → Prop} {s : Shared}
end
def Itzt (K : PySem.W.Frag) (a b : Addr) : It :=
  ⟨fun i H => ∃ xs ys, SqT K H a xs ∧ SqT K H b ys ∧ i < xs.length ∧ i < ys.length,
   fun i H x H' => ∃ T u v, x = .ref T ∧ H T = none ∧ H' = upd H T (.tup [u, v]) ∧ (∀ xs, SqT K H a xs → xs[i]? = some u) ∧ (∀ ys, SqT K H b ys → ys[i]? = some v),
   fun i H => ∃ xs ys, SqT K H a xs ∧ SqT K H b ys ∧ (xs.length ≤ i ∨ ys.length ≤ i)⟩
def iZip2 (K : PySem.W.Frag) (ta : TA) : TI := fun σ H R => ta σ H fun vs H1 => ∃ a b xs ys, vs = [.ref a, .ref b] ∧ ((SqL K H1 a xs ∧ SqL K H1 b ys ∧ R (Itz K a b) H1) ∨ (SqT K H1 a xs ∧ SqT K H1 b ys ∧ R (Itzt K a b) H1))
theorem w_compZ2 {K : PySem.W.Frag} {σ : St} {H : Hp} {Q : VK} {ta : TA} {nt : Nat} {cs : List Nat} {g : TG} {tt : TT} {te : TE} : tComp (iZip2 K ta) nt cs g tt te σ H Q = (ta σ H fun vs H1 => ∃ a b xs ys, vs = [.ref a, .ref b] ∧ ((SqL K H1 a xs ∧ SqL K H1 b ys ∧ CompIt (Itz K a b) nt cs g tt te σ H1 Q) ∨ (SqT K H1 a xs ∧ SqT K H1 b ys ∧ CompIt (Itzt K a b) nt cs g tt te σ H1 Q))) := rfl
end L2
set_option Elab.async false
set_option linter.all false
set_option maxRecDepth 100000
set_option maxHeartbeats 1000000
namespace L2
open PySem PySem.Spec PyProof.Rows
structure Gt (ins : Nat) (ds : List Wd) (gs : List Go) (i : Nat) (ms : List Nat) : Prop where
  sd : ∀ x ∈ ms, Rch ins ds gs x
  rt : ∀ g ∈ gs, g.sg ≠ 0 → g.th ∈ ms
  cl : ∀ k d, ds[k]? = some d → ds.length ≤ k + i → ins + k ∈ ms → d.a ∈ ms ∧ d.b ∈ ms
  ln : ms.length ≤ gs.length + 2 * i
def kp (bs : List Bool) (ins j : Nat) : Prop := j < ins ∨ bs[j]? = some true
instance (bs : List Bool) (ins j : Nat) : Decidable (kp bs ins j) := by unfold kp; infer_instance
section
variable {ins : Nat} {ds : List Wd} {gs : List Go} {bs : List Bool}
end
section
variable {K : PySem.W.Frag} {σ : St} {H : Hp} {Q : VK} {cs : List Nat} {te : TE}
end
end L2
set_option Elab.async false
set_option linter.all false
set_option maxRecDepth 100000
set_option maxHeartbeats 1000000
namespace L2
open PySem PySem.Spec PyProof.Rows
def TrX (h : Heap) (e : Addr) (C : Value) (d : Option Addr) (T : Addr) : Prop :=
  ∃ oe vs oT ts, h.get? e = some oe ∧ oe.cls = C ∧ oe.dict = d ∧ oe.data = .fields vs ∧ vs[1]? = some (.ref T) ∧ T ≠ e ∧ h.get? T = some oT ∧ oT.data = .fields ts ∧ ts[3]? = some .none
section
variable {M : Model} {A : Around} {E : Value → Shared → Prop} {s : Shared} {base : Heap} {env : Env} {outer : List Env} {L e : Addr} {oe : Obj} {vs : Array Value} {Q : Unit → Shared → Prop}
end
section
variable {P : Program} {w : World} {K : PySem.W.Frag} {mg : Str → Option Value} {base : Heap} {N : List Str} {qual : Str} {scope : Scope} {f : Addr} {cd : Value} {A : Around} {outer : List Env} {s : Shared} {H : Hp} {E : XK}
end
section
variable {X : Cx} {k : Nat} {x : Str} {ps : List Str} {sp : Sp} {e : Expr} {es : List Expr} {t : TA} {p pos : Pos} {E : XK}
end
section
variable {P : Program} {w : World} {K : PySem.W.Frag} {mg : Str → Option Value} {base : Heap}
end
end L2
set_option Elab.async false
set_option linter.all false
set_option maxRecDepth 100000
set_option maxHeartbeats 1000000
namespace L2
open PySem PySem.Spec PyProof.Rows
section
variable {M : Model} {A : Around} {E : Value → Shared → Prop}
end
end L2
set_option Elab.async false
set_option linter.all false
set_option maxRecDepth 100000
set_option maxHeartbeats 1000000
namespace L2
open PySem PySem.Spec PyProof.Rows
def XP (X : Cx) (pins : List (Addr × Obj)) (σ : St) (E : XK) (e : Value) (s' : Shared) : Prop := ∃ (x T : Addr) (C : Value) (d : Option Addr) (H' : Hp), e = .ref x ∧ Inv X pins σ H' s' ∧ TrX s'.heap x C d T ∧
  (X.s₀.heap.get? x = none ∧ X.s₀.heap.get? T = none) ∧ (∀ p ∈ X.pn ++ pins, p.1 ≠ x ∧ p.1 ≠ T) ∧ H' x = none ∧ H' T = none ∧ E C d H'
end L2
set_option Elab.async false
set_option linter.all false
set_option maxRecDepth 100000
set_option maxHeartbeats 1000000
namespace L2
open PySem PySem.Spec PyProof.Rows
end L2
set_option Elab.async false
set_option linter.all false
set_option maxRecDepth 100000
set_option maxHeartbeats 1000000
namespace L2
open PySem PySem.Spec PyProof.Rows
section
variable {prog : Program} {w : World} {A : Around} {E : Value → Shared → Prop} {s : Shared} {K : PySem.W.Frag} {x D : Addr} {o : Obj}
end
end L2
set_option Elab.async false
set_option linter.all false
set_option maxRecDepth 100000
set_option maxHeartbeats 1000000
namespace L2
open PySem PySem.Spec PyProof.Rows
end L2
set_option Elab.async false
set_option linter.all false
set_option maxRecDepth 100000
set_option maxHeartbeats 1000000
namespace L2
open PySem PySem.Spec
end L2
set_option Elab.async false
set_option linter.all false
set_option maxRecDepth 100000
set_option maxHeartbeats 1000000
namespace L2
open PySem PySem.Spec
end L2
set_option Elab.async false
set_option linter.all false
set_option maxRecDepth 100000
set_option maxHeartbeats 1000000
namespace L2
open PySem PySem.Spec
theorem set_mid {α : Type} {as bs : List α} {x y : α} {n : Nat} (h : as.length = n) : (as ++ x :: bs).set n y = as ++ y :: bs := by
  subst h
  induction as with
  | nil => rfl
  | cons a r ih => simp [ih]
theorem set_mapI {xs : List Int} {k : Nat} {x : Int} : (xs.map V.int).set k (.int x) = (xs.set k x).map V.int := by rw [List.map_set]
end L2
set_option Elab.async false
set_option linter.all false
set_option maxRecDepth 100000
set_option maxHeartbeats 1000000
namespace L2
open PySem PySem.Spec
end L2
set_option Elab.async false
set_option linter.all false
set_option maxRecDepth 100000
set_option maxHeartbeats 1000000
namespace L2
open PySem PySem.Spec
end L2
set_option Elab.async false
set_option linter.all false
set_option maxRecDepth 100000
set_option maxHeartbeats 1000000
namespace L2
open PySem PySem.Spec PyProof PyProof.Rows
section
variable {P : Program} {w : World} {A : Around} {E : Value → Shared → Prop} {s : Shared}
end
section
variable {X : Cx}
end
end L2
set_option Elab.async false
set_option linter.all false
set_option maxRecDepth 100000
set_option maxHeartbeats 1000000
namespace L2
open PySem PySem.Spec
section
variable {K : PySem.W.Frag} {σ : St} {H : Hp} {D : Ends} {g : TG} {tb : TS} {a b : Addr}
end
section
variable {K : PySem.W.Frag} {σ : St} {H : Hp} {Q : VK} {cs : List Nat} {te : TE}
end
end L2
set_option Elab.async false
set_option linter.all false
set_option maxRecDepth 100000
set_option maxHeartbeats 1000000
namespace L2
open PySem PySem.Spec
def vGD (g : Int → Int → Int → Int → Int) (z : Int) (vs : List Int) (d : Wd) : Int := g (g z d.s 1 (vs.getD d.a 0)) d.t (sgW d.w) (vs.getD d.b 0)
def vG (g : Int → Int → Int → Int → Int) (z : Int) (xs : List Int) (ds : List Wd) : List Int := ds.foldl (fun vs d => vs ++ [vGD g z vs d]) xs
section
variable {g : Int → Int → Int → Int → Int} {z : Int}
theorem vG_snoc (xs : List Int) (ds : List Wd) (d : Wd) : vG g z xs (ds ++ [d]) = vG g z xs ds ++ [vGD g z (vG g z xs ds) d] := by unfold vG; rw [List.foldl_append]; rfl
theorem vG_len (xs : List Int) (ds : List Wd) : (vG g z xs ds).length = xs.length + ds.length := by
  refine snoc_ind (p := fun ds => (vG g z xs ds).length = xs.length + ds.length) rfl (fun ys y ih => ?_) ds
  rw [vG_snoc, List.length_append, ih]; simp; omega
theorem vG_pre (xs : List Int) (ds new : List Wd) {k : Nat} {r : Int} (h : (vG g z xs ds)[k]? = some r) : (vG g z xs (ds ++ new))[k]? = some r := by
  refine snoc_ind (p := fun new => (vG g z xs (ds ++ new))[k]? = some r) (by rw [List.append_nil]; exact h) (fun ys y ih => ?_) new
  rw [← List.append_assoc, vG_snoc, List.getElem?_append_left (List.getElem?_eq_some_iff.mp ih).1]
  exact ih
theorem vG_take {xs : List Int} {ds : List Wd} {i : Nat} {d : Wd} (hd : ds[i]? = some d) : vG g z xs (ds.take (i + 1)) = vG g z xs (ds.take i) ++ [vGD g z (vG g z xs (ds.take i)) d] := by
  rw [List.take_add_one, hd]
  exact vG_snoc _ _ _
theorem vG_takeD {xs : List Int} {ds : List Wd} {i j : Nat} (hi : i ≤ ds.length) (hj : j < xs.length + i) : (vG g z xs (ds.take i)).getD j 0 = (vG g z xs ds).getD j 0 := by
  have hl : j < (vG g z xs (ds.take i)).length := by rw [vG_len, List.length_take]; omega
  have e := List.getElem?_eq_getElem hl
  have e2 := vG_pre xs (ds.take i) (ds.drop i) e
  rw [List.take_append_drop] at e2
  rw [getD_of e, getD_of e2]
end
def tG (g : Int → Int → Int → Int → Int) (z : Int) (xs : List Int) (ds : List Wd) (i : Nat) : List Int :=
  if i % 2 = 0 then vG g z xs (ds.take (i / 2)) ++ List.replicate (ds.length - i / 2) z
  else match ds[i / 2]? with
    | some d => vG g z xs (ds.take (i / 2)) ++ g z d.s 1 ((vG g z xs (ds.take (i / 2))).getD d.a 0) :: List.replicate (ds.length - i / 2 - 1) z
    | none => []
section
variable {g : Int → Int → Int → Int → Int} {z : Int}
theorem tG_end (xs : List Int) (ds : List Wd) : tG g z xs ds (2 * ds.length) = vG g z xs ds := by
  unfold tG
  rw [if_pos (by omega), show 2 * ds.length / 2 = ds.length by omega, List.take_length, Nat.sub_self]
  simp
theorem tG_even {xs : List Int} {ds : List Wd} {i : Nat} {d : Wd} (h : i % 2 = 0) (hd : ds[i / 2]? = some d) : tG g z xs ds i = vG g z xs (ds.take (i / 2)) ++ z :: List.replicate (ds.length - i / 2 - 1) z := by
  have hi := (List.getElem?_eq_some_iff.mp hd).1
  unfold tG
  rw [if_pos h, show ds.length - i / 2 = (ds.length - i / 2 - 1) + 1 by omega, List.replicate_succ]
  rfl
theorem tG_odd {xs : List Int} {ds : List Wd} {i : Nat} {d : Wd} (h : i % 2 = 1) (hd : ds[i / 2]? = some d) : tG g z xs ds i = vG g z xs (ds.take (i / 2)) ++ g z d.s 1 ((vG g z xs (ds.take (i / 2))).getD d.a 0) :: List.replicate (ds.length - i / 2 - 1) z := by
  unfold tG
  rw [if_neg (by omega), hd]
theorem tG_step {xs : List Int} {ds : List Wd} (dk : ∀ (k : Nat) (d : Wd), ds[k]? = some d → d.a < xs.length + k ∧ d.b < xs.length + k) {i : Nat} {a : Ar} (ha : (arrF xs.length 0 ds)[i]? = some a) :
    ∃ x y : Int, (tG g z xs ds i)[a.st]? = some x ∧ (tG g z xs ds i)[a.go]? = some y ∧ x ∈ vG g z xs ds ∧ (∃ d, ds[i / 2]? = some d ∧ (a.sh = d.s ∨ a.sh = d.t)) ∧ (a.sg = 1 ∨ a.sg = -1) ∧ (tG g z xs ds i).set a.go (g y a.sh a.sg x) = tG g z xs ds (i + 1) := by
  obtain ⟨d, hd, hg, hc⟩ := arr_at ha
  rw [Nat.add_zero] at hg hc
  have hi := (List.getElem?_eq_some_iff.mp hd).1
  obtain ⟨da, db⟩ := dk _ _ hd
  have tl : (vG g z xs (ds.take (i / 2))).length = xs.length + i / 2 := by rw [vG_len, List.length_take]; omega
  have hb : ∀ j, j < xs.length + i / 2 → ∃ x, (vG g z xs (ds.take (i / 2)))[j]? = some x ∧ x = (vG g z xs (ds.take (i / 2))).getD j 0 ∧ x ∈ vG g z xs ds := fun j hj => by
    have e := List.getElem?_eq_getElem (l := vG g z xs (ds.take (i / 2))) (i := j) (by omega)
    refine ⟨_, e, (getD_of e).symm, ?_⟩
    have e2 := vG_pre xs (ds.take (i / 2)) (ds.drop (i / 2)) e
    rw [List.take_append_drop] at e2
    exact List.mem_of_getElem? e2
  rcases hc with ⟨hm, rfl⟩ | ⟨hm, rfl⟩
  · obtain ⟨x, e1, e2, e3⟩ := hb d.a da
    refine ⟨x, z, ?_, ?_, e3, ⟨d, hd, .inl rfl⟩, .inl rfl, ?_⟩
    · rw [tG_even hm hd, List.getElem?_append_left (by show d.a < _; omega)]
      exact e1
    · rw [tG_even hm hd, List.getElem?_append_right (by show _ ≤ xs.length + i / 2; omega), tl]
      show (z :: _)[xs.length + i / 2 - (xs.length + i / 2)]? = _
      rw [Nat.sub_self]
      rfl
    · rw [tG_even hm hd, set_mid tl, tG_odd (i := i + 1) (d := d) (by omega) (by rw [show (i + 1) / 2 = i / 2 by omega]; exact hd), show (i + 1) / 2 = i / 2 by omega, ← e2]
  · obtain ⟨x, e1, e2, e3⟩ := hb d.b db
    have hs : sgW d.w = 1 ∨ sgW d.w = -1 := by
      unfold sgW
      split
      · exact .inr rfl
      · exact .inl rfl
    refine ⟨x, g z d.s 1 ((vG g z xs (ds.take (i / 2))).getD d.a 0), ?_, ?_, e3, ⟨d, hd, .inr rfl⟩, hs, ?_⟩
    · rw [tG_odd hm hd, List.getElem?_append_left (by show d.b < _; omega)]
      exact e1
    · rw [tG_odd hm hd, List.getElem?_append_right (by show _ ≤ xs.length + i / 2; omega), tl]
      show (_ :: _)[xs.length + i / 2 - (xs.length + i / 2)]? = _
      rw [Nat.sub_self]
      rfl
    · rw [tG_odd hm hd, set_mid tl]
      unfold tG
      rw [if_pos (by omega), show (i + 1) / 2 = i / 2 + 1 by omega, vG_take hd, List.append_assoc, Nat.sub_add_eq]
      show _ = _ ++ (vGD _ _ _ _ :: _)
      unfold vGD
      rw [← e2]
      rfl
end
end L2
set_option Elab.async false
set_option linter.all false
set_option maxRecDepth 100000
set_option maxHeartbeats 1000000
namespace L2
open PySem PySem.Spec
end L2
set_option Elab.async false
set_option linter.all false
set_option maxRecDepth 100000
set_option maxHeartbeats 1000000
namespace L2
open PySem PySem.Spec
section
variable {K : PySem.W.Frag} {σ : St} {H : Hp} {Q : VK} {cs : List Nat} {te : TE}
end
end L2
set_option Elab.async false
set_option linter.all false
set_option maxRecDepth 100000
set_option maxHeartbeats 1000000
namespace L2
open PySem PySem.Spec PyProof.Rows
section
variable {prog : Program} {w : World} {A : Around} {E : Value → Shared → Prop} {s : Shared}
end
section
variable {prog : Program} {w : World} {A : Around} {E : Value → Shared → Prop} {s : Shared}
end
section
variable {K : PySem.W.Frag} {σ : St} {H : Hp} {D : Ends} {g : TG} {tb : TS} {a b c : Addr}
end
end L2
set_option Elab.async false
set_option linter.all false
set_option maxRecDepth 100000
set_option maxHeartbeats 1000000
namespace L2
open PySem PySem.Spec
end L2
set_option Elab.async false
set_option linter.all false
set_option maxRecDepth 100000
set_option maxHeartbeats 1000000
namespace L2
open PySem PySem.Spec PyProof PyProof.Rows
section
variable {prog : Program} {w : World} {A : Around} {E : Value → Shared → Prop} {s : Shared}
end
section
variable {prog : Program} {w : World} {A : Around} {E : Value → Shared → Prop} {s : Shared}
end
section
variable {K : PySem.W.Frag} {σ : St} {H : Hp} {Q : VK} {cs : List Nat} {te : TE}
end
section
variable {X : Cx}
end
end L2
set_option Elab.async false
set_option linter.all false
set_option maxRecDepth 100000
set_option maxHeartbeats 1000000
namespace L2
open PySem PySem.Spec
def Lies (w x : Int) : Prop := -(2 ^ (w - 1).toNat) ≤ x ∧ x < 2 ^ (w - 1).toNat
instance (w x : Int) : Decidable (Lies w x) := by unfold Lies; infer_instance
end L2
set_option Elab.async false
set_option linter.all false
set_option maxRecDepth 100000
set_option maxHeartbeats 1000000
namespace L2
open PySem PySem.Spec
end L2
set_option Elab.async false
set_option linter.all false
set_option maxRecDepth 100000
set_option maxHeartbeats 1000000
namespace L2
open PySem PySem.Spec
def LL (H : Hp) (l : Addr) (cs : List (List Int)) : Prop := ∃ vs, H l = some (.lst vs) ∧ vs.length = cs.length ∧ ∀ (i : Nat) (c : List Int), cs[i]? = some c → ∃ p, vs[i]? = some (.ref p) ∧ p ≠ l ∧ H p = some (.lst (c.map V.int))
end L2
set_option Elab.async false
set_option linter.all false
set_option maxRecDepth 100000
set_option maxHeartbeats 1000000
namespace L2
open PySem PySem.Spec
theorem seq_in {t u : TS} {D : Ends} {σ : St} {H : Hp} (h : ∀ R : TS, R = u → tSeq t R D σ H) : tSeq t u D σ H := h u rfl
theorem seq_inG {g : TG} {x : V} {t u : TS} {D : Ends} {σ : St} {H : Hp} (h : ∀ R : TS, R = u → g x σ H fun σ2 H2 => tSeq t R D σ2 H2) : g x σ H fun σ2 H2 => tSeq t u D σ2 H2 := h u rfl
theorem seq_out {R u : TS} {D : Ends} {σ : St} {H : Hp} (e : R = u) (h : u D σ H) : R D σ H := by rw [e]; exact h
end L2
set_option Elab.async false
set_option linter.all false
set_option maxRecDepth 100000
set_option maxHeartbeats 1000000
namespace L2
open PySem PySem.Spec
section
variable {K : PySem.W.Frag} {σ : St} {H : Hp} {Q : VK} {cs : List Nat} {te : TE}
end
end L2
set_option Elab.async false
set_option linter.all false
set_option maxRecDepth 100000
set_option maxHeartbeats 1000000
namespace L2
open PySem PySem.Spec
section
variable {K : PySem.W.Frag} {σ : St} {H : Hp} {Q : VK} {cs : List Nat} {te : TE}
end
end L2
set_option Elab.async false
set_option linter.all false
set_option maxRecDepth 100000
set_option maxHeartbeats 1000000
namespace L2
open PySem PySem.Spec PyProof.Rows
end L2
set_option Elab.async false
set_option linter.all false
set_option maxRecDepth 100000
set_option maxHeartbeats 1000000
namespace L2
open PySem PySem.Spec PyProof.Rows
section
variable {H H' : Hp} {x dl gl : Addr} {ins : Nat} {us : List V} {ds : List Wd} {os : List V} {gs : List Go}
end
theorem same_chg {H H1 H2 : Hp} {l : Addr} (n : H l = none) (s : Same H H1) (c : Chg l H1 H2) : Same H H2 := fun b o q => c b o (ne_of_none q n) (s b o q)
section
variable {α : Type} {f : α → List V} {H0 H H' : Hp} {p dl : Addr} {us : List V} {ds : List α}
end
section
variable {H : Hp} {w : Str} {a b d1 g1 d2 g2 : Addr} {i1 i2 : Nat} {u1 u2 : List V} {s1 s2 : List Wd} {o1 o2 : List V} {t1 t2 : List Go} {Q : VK} {E : XK}
end
end L2
set_option Elab.async false
set_option linter.all false
set_option maxRecDepth 100000
set_option maxHeartbeats 1000000
namespace L2
open PySem PySem.Spec PyProof.Rows
section
variable {I ins l m : Nat} {f : Nat → Nat} {ds0 ds : List Wd} {gs0 gs : List Go}
end
end L2
set_option Elab.async false
set_option linter.all false
set_option maxRecDepth 100000
set_option maxHeartbeats 1000000
namespace L2
open PySem PySem.Spec PyProof.Rows
section
variable {α : Type} {K : PySem.W.Frag} {f : α → List V} {H H' : Hp} {vs us : List V} {xs : List α} {l : Addr}
end
end L2
set_option Elab.async false
set_option linter.all false
set_option maxRecDepth 100000
set_option maxHeartbeats 1000000
namespace L2
open PySem PySem.Spec PyProof.Rows
section
variable {X : Cx}
end
section
variable {K : PySem.W.Frag} {σ : St} {H : Hp} {Q : VK} {cs : List Nat} {te : TE}
end
theorem LL.hrs {H : Hp} {l : Addr} {rs : List (List Int)} (h : LL H l rs) : ∃ vs, H l = some (.lst vs) ∧ HRs H [l] vs rs := by
  obtain ⟨vs, h1, h2, h3⟩ := h
  refine ⟨vs, h1, h2, fun k r e => ?_⟩
  obtain ⟨p, a, b, c⟩ := h3 k r e
  exact ⟨p, a, c, fun e he => by rw [List.mem_singleton.mp he]; exact b⟩
end L2
set_option Elab.async false
set_option linter.all false
set_option maxRecDepth 100000
set_option maxHeartbeats 1000000
namespace L2
open PySem PySem.Spec PyProof.Rows
section
variable {c : Bool} {i1 i2 : Nat} {s1 s2 : List Wd} {t1 t2 : List Go}
end
section
variable {K : PySem.W.Frag} {σ : St} {H : Hp} {Q : VK} {cs : List Nat} {te : TE}
end
end L2
set_option Elab.async false
set_option linter.all false
set_option maxRecDepth 100000
set_option maxHeartbeats 1000000
namespace L2
open PySem PySem.Spec PyProof.Rows
def Rise (xs : Array Nat) : Prop := ∀ i j (hi : i < xs.size) (hj : j < xs.size), i < j → xs[i] < xs[j]
theorem below_go {xs : Array Nat} (R : Rise xs) (j : Nat) : ∀ (fuel lo hi : Nat), lo ≤ hi → hi ≤ xs.size → hi - lo ≤ fuel → (∀ i (h : i < xs.size), i < lo → xs[i] < j) → (∀ i (h : i < xs.size), hi ≤ i → j ≤ xs[i]) →
    (SetTable.below.go xs j fuel lo hi ≤ xs.size ∧ (∀ i (h : i < xs.size), i < SetTable.below.go xs j fuel lo hi → xs[i] < j) ∧ ∀ i (h : i < xs.size), SetTable.below.go xs j fuel lo hi ≤ i → j ≤ xs[i])
  | 0, lo, hi, h1, h2, h3, h4, h5 => by
    have : lo = hi := by omega
    subst this
    exact ⟨h2, h4, h5⟩
  | fuel + 1, lo, hi, h1, h2, h3, h4, h5 => by
    unfold SetTable.below.go
    by_cases z : lo < hi
    · rw [if_pos z]
      have ml : (lo + hi) / 2 < xs.size := by omega
      have e : xs.getD ((lo + hi) / 2) j = xs[(lo + hi) / 2] := by simp [ml]
      dsimp only
      rw [e]
      by_cases y : xs[(lo + hi) / 2] < j
      · rw [if_pos y]
        refine below_go R j fuel _ _ (by omega) h2 (by omega) (fun i hi' hlt => ?_) h5
        by_cases q : i = (lo + hi) / 2
        · subst q; exact y
        · exact Nat.lt_trans (R i _ hi' ml (by omega)) y
      · rw [if_neg y]
        refine below_go R j fuel _ _ (by omega) (by omega) (by omega) h4 (fun i hi' hge => ?_)
        by_cases q : i = (lo + hi) / 2
        · subst q; omega
        · have := R _ i ml hi' (by omega)
          omega
    · rw [if_neg z]
      have : lo = hi := by omega
      subst this
      exact ⟨h2, h4, h5⟩
theorem below_ok {xs : Array Nat} (R : Rise xs) (j : Nat) : SetTable.below xs j ≤ xs.size ∧ (∀ i (h : i < xs.size), i < SetTable.below xs j → xs[i] < j) ∧ ∀ i (h : i < xs.size), SetTable.below xs j ≤ i → j ≤ xs[i] := by
  unfold SetTable.below
  exact below_go R j _ _ _ (by omega) (Nat.le_refl _) (by omega) (fun i _ h => by omega) (fun i _ h => by omega)
theorem insAt_get {α : Type} (xs : Array α) {p : Nat} (x : α) (hp : p ≤ xs.size) (i : Nat) : (SetTable.insertAt xs p x)[i]? = if i < p then xs[i]? else if i = p then some x else xs[i - 1]? := by
  rw [← Array.getElem?_toList, SetTable.toList_insertAt]
  have lt : (xs.toList.take p).length = p := by rw [List.length_take, Array.length_toList]; omega
  by_cases h1 : i < p
  · rw [if_pos h1, List.getElem?_append_left (by rw [lt]; exact h1), List.getElem?_take_of_lt h1, Array.getElem?_toList]
  · rw [if_neg h1]
    by_cases h2 : i = p
    · rw [if_pos h2, List.getElem?_append_right (by rw [lt]; omega), lt, h2, Nat.sub_self]
      rfl
    · rw [if_neg h2, List.getElem?_append_right (by rw [lt]; omega), lt, show i - p = (i - 1 - p) + 1 by omega, List.getElem?_cons_succ, List.getElem?_drop, Array.getElem?_toList]
      congr 1
      omega
theorem rise_ins {xs : Array Nat} {j : Nat} (R : Rise xs) (hj : xs[SetTable.below xs j]? ≠ some j) : Rise (SetTable.insertAt xs (SetTable.below xs j) j) := by
  obtain ⟨b1, b2, b3⟩ := below_ok R j
  generalize SetTable.below xs j = p at b1 b2 b3 hj
  intro i k hi hk hik
  have ei := insAt_get xs j b1 i
  have ek := insAt_get xs j b1 k
  rw [Array.getElem?_eq_getElem hi] at ei
  rw [Array.getElem?_eq_getElem hk] at ek
  generalize (SetTable.insertAt xs p j)[i] = u at ei
  generalize (SetTable.insertAt xs p j)[k] = v at ek
  have get : ∀ {m w : Nat}, some w = xs[m]? → ∃ h : m < xs.size, xs[m] = w := fun {m w} h => by
    obtain ⟨h1, h2⟩ := Array.getElem?_eq_some_iff.mp h.symm
    exact ⟨h1, h2⟩
  by_cases i1 : i < p
  · rw [if_pos i1] at ei
    obtain ⟨il, rfl⟩ := get ei
    by_cases k1 : k < p
    · rw [if_pos k1] at ek
      obtain ⟨kl, rfl⟩ := get ek
      exact R i k il kl hik
    · rw [if_neg k1] at ek
      by_cases k2 : k = p
      · rw [if_pos k2] at ek
        cases ek
        exact b2 i il i1
      · rw [if_neg k2] at ek
        obtain ⟨kl, rfl⟩ := get ek
        exact R i (k - 1) il kl (by omega)
  · rw [if_neg i1] at ei
    by_cases i2 : i = p
    · rw [if_pos i2] at ei
      cases ei
      rw [if_neg (by omega), if_neg (by omega)] at ek
      obtain ⟨kl, rfl⟩ := get ek
      have hp : p < xs.size := by omega
      have h1 : j ≤ xs[p] := b3 p hp (Nat.le_refl _)
      have h2 : xs[p] ≠ j := fun e => hj (by rw [Array.getElem?_eq_getElem hp, e])
      by_cases q : k - 1 = p
      · simp only [q]; omega
      · have := R p (k - 1) hp kl (by omega)
        omega
    · rw [if_neg i2] at ei
      rw [if_neg (by omega), if_neg (by omega)] at ek
      obtain ⟨il, rfl⟩ := get ei
      obtain ⟨kl, rfl⟩ := get ek
      exact R _ _ il kl (by omega)
theorem rise_list {xs : List Nat} (h : xs.Pairwise (· < ·)) : Rise xs.toArray := fun i j hi hj hij => by
  simp only [List.getElem_toArray]
  exact List.pairwise_iff_getElem.mp h i j (by simpa using hi) (by simpa using hj) hij
theorem rise_range (n : Nat) : Rise (Array.range n) := fun i j hi hj hij => by
  simp only [Array.getElem_range]
  exact hij
structure TabZ (led : Bool) (t : SetTable) : Prop where
  rise : Rise t.place
  dum : t.dummies = #[]
  led_ : t.led = led
theorem tabZ_fresh (led : Bool) : TabZ led (.fresh 0 0 led) := ⟨fun i j hi => by simp [SetTable.fresh] at hi, rfl, rfl⟩
theorem TabZ.stand {led : Bool} {t : SetTable} (h : TabZ led t) (n : Nat) : TabZ led (t.standIn n) := ⟨rise_range n, rfl, h.led_⟩
theorem TabZ.orStand {led : Bool} {t : SetTable} (h : TabZ led t) (n : Nat) : TabZ led (t.orStandIn n) := by
  unfold SetTable.orStandIn
  split
  · exact h
  · exact h.stand n
theorem has_nil (j : Nat) : SetTable.has #[] j = false := by
  unfold SetTable.has
  simp
theorem probe_go {led : Bool} {t : SetTable} (h : TabZ led t) (f : Nat → Int) (x : Int) : ∀ (fuel : Nat) (p : SetTable.Probe) (m : SetTable.Met), p.dummy = none → SetTable.probe.go t f x fuel p = some m → (∀ i, (f i == x) = false) → ∃ j, m = .empty j none ∧ t.slot j = .empty
  | 0, p, m, _, e, _ => by cases e
  | fuel + 1, p, m, hd, e, hf => by
    unfold SetTable.probe.go at e
    cases hs : t.slot p.j with
    | empty =>
      rw [hs] at e
      cases e
      exact ⟨p.j, by rw [hd], hs⟩
    | dummy =>
      exfalso
      unfold SetTable.slot at hs
      dsimp only at hs
      split at hs
      · cases hs
      · rw [h.dum, has_nil] at hs
        cases hs
    | live i =>
      rw [hs] at e
      dsimp only at e
      rw [hf i] at e
      refine probe_go h f x fuel _ m ?_ e hf
      unfold SetTable.advance
      split
      · exact hd
      · exact hd
theorem free_slot {led : Bool} {t : SetTable} (h : TabZ led t) {x : Int} {j : Nat} {b : Bool} (e : t.freeSlot x = some (j, b)) : b = false ∧ t.place[SetTable.below t.place j]? ≠ some j := by
  unfold SetTable.freeSlot at e
  cases hp : t.probe (fun _ => x + 1) x (t.probeStart x) with
  | none => rw [hp] at e; cases e
  | some m =>
    obtain ⟨j', rfl, hs⟩ := probe_go h _ _ _ _ _ rfl hp (fun _ => by simp; omega)
    rw [hp] at e
    cases e
    refine ⟨rfl, fun z => ?_⟩
    unfold SetTable.slot at hs
    dsimp only at hs
    rw [Option.getD_none] at z
    rw [z] at hs
    simp at hs
theorem layNew_z {led : Bool} {t : SetTable} (h : TabZ led t) (es : Array (Int × Value)) (x : Int) (v : Value) : TabZ led (layNew t es x v).2.1 := by
  unfold layNew
  cases hf : t.freeSlot x with
  | none => exact h.stand _
  | some q =>
    obtain ⟨j, b⟩ := q
    obtain ⟨rfl, hj⟩ := free_slot h hf
    have hp : TabZ led (t.put j).1 := by
      refine ⟨rise_ins h.rise hj, ?_, h.led_⟩
      show (if SetTable.has t.dummies j = true then _ else t.dummies) = #[]
      rw [h.dum, has_nil]
      rfl
    exact hp.orStand _
theorem rise_live (owner : Array (Option Nat)) (n : Nat) : ((((List.range n).filterMap fun j => (owner.getD j none).map (j, ·)).map (·.1))).Pairwise (· < ·) := by
  rw [List.pairwise_map]
  refine List.Pairwise.filterMap _ (R := (· < ·)) (fun a a' haa b hb b' hb' => ?_) List.pairwise_lt_range
  cases h1 : owner.getD a none with
  | none => rw [h1] at hb; cases hb
  | some u =>
    cases h2 : owner.getD a' none with
    | none => rw [h2] at hb'; cases hb'
    | some v =>
      rw [h1] at hb
      rw [h2] at hb'
      cases hb
      cases hb'
      exact haa
theorem relay_z {led : Bool} {t : SetTable} (h : TabZ led t) (es : Array (Int × Value)) (n : Nat) : TabZ led (relayAll t es n).2.1 := by
  unfold relayAll
  cases hr : t.relaid (es.map (·.1)) n with
  | none => exact h.stand _
  | some q =>
    obtain ⟨t', o⟩ := q
    dsimp only
    split
    · unfold SetTable.relaid SetTable.laid at hr
      cases hc : SetTable.layClean (SetTable.sizeAbove n - 1) (es.map (·.1)) with
      | none => rw [hc] at hr; cases hr
      | some ow =>
        rw [hc] at hr
        cases hr
        exact ⟨rise_list (rise_live ow _), rfl, h.led_⟩
    · exact h.stand _
end L2
set_option Elab.async false
set_option linter.all false
set_option maxRecDepth 100000
set_option maxHeartbeats 1000000
namespace L2
open PySem PySem.Spec PyProof.Rows
def keyZ (e : Int × Value) : Int := match e.2 with
  | .int k _ => k
  | _ => 0
abbrev setObj (es : Array (Int × Value)) (ep : Nat) (t : SetTable) : Obj := { cls := .type "set", dict := none, data := .set es ep t }
def EntZ (es : List (Int × Value)) : Prop := ∀ e ∈ es, ∃ k tk, e = (hashInt k, Value.int k tk)
structure SetO (led : Bool) (es : Array (Int × Value)) (t : SetTable) (ks : List Int) : Prop where
  ent : EntZ es.toList
  perm : (es.toList.map keyZ).Perm ks
  nd : ks.Nodup
  sm : es.size < scanBound
  fit : t.fits es.size = true
  tab : TabZ led t
def SetZ (led : Bool) (h : Heap) (a : Addr) (ks : List Int) : Prop := ∃ es ep t, h.get? a = some (setObj es ep t) ∧ SetO led es t ks
theorem EntZ.elems {prog : Program} {w : World} {l : List (Int × Value)} (h : EntZ l) : ElemsOf (intKind prog w) l := fun e he => by
  obtain ⟨k, tk, rfl⟩ := h e he
  exact ⟨⟨k, intKind_is _ _ _ _, rfl⟩, rfl⟩
theorem isInt_key {e : Int × Value} {k : Int} (h : ∃ k tk, e = (hashInt k, Value.int k tk)) : Value.isInt k e.2 = decide (keyZ e = k) := by
  obtain ⟨k', tk, rfl⟩ := h
  show (k' == k) = decide (k' = k)
  cases hk : decide (k' = k) with
  | true => exact beq_iff_eq.mpr (of_decide_eq_true hk)
  | false => exact beq_eq_false_iff_ne.mpr (of_decide_eq_false hk)
theorem SetO.len {led : Bool} {es : Array (Int × Value)} {t : SetTable} {ks : List Int} (h : SetO led es t ks) : es.size = ks.length := by
  have := h.perm.length_eq
  rw [List.length_map, Array.length_toList] at this
  exact this
section
variable {prog : Program} {w : World} {A : Around} {E : Value → Shared → Prop} {s : Shared}
theorem put_at {h : Heap} {a : Addr} {es es' : Array (Int × Value)} {ep : Nat} {t t' : SetTable} (ho : h.get? a = some (setObj es ep t)) : (h.update a (Obj.putSet es' t')).get? a = some (setObj es' (ep + 1) t') := by
  have q := Heap.get?_update_self (Obj.putSet es' t') ho (by rw [putSet_of es' t' rfl]; rfl)
  rw [putSet_of es' t' rfl] at q
  exact q
theorem tail_z {g : Bool → Sem Unit} (hg : ∀ (b : Bool) (s₁ : Shared) (Q' : Unit → Shared → Prop), Q' () s₁ → wpAny (model prog w) A (g b) Q' E s₁)
    {led wd : Bool} {a : Addr} {es es1 : Array (Int × Value)} {ep : Nat} {t t2 : SetTable} {ks : List Int} {R : Option Bool → Shared → Prop} (ho : s.heap.get? a = some (setObj es ep t)) (Z : SetO led es1 t2 ks)
    (h : ∀ h', Heap.SameBut a s.heap h' → SetZ led h' a ks → R (some true) { s with heap := h' }) :
    wpAny (model prog w) A (do
        storeSet a es1 t2
        if (!wd && t2.tooFull) = true then do
            g (relayAll t2 es1 (SetTable.grown es1.size)).2.2
            storeSet a (relayAll t2 es1 (SetTable.grown es1.size)).1 (relayAll t2 es1 (SetTable.grown es1.size)).2.1
            pure (some true)
          else pure (some true)) R E s := by
  refine wpAny_bind (wpAny_storeSet_of ho rfl ?_ (fits_of_scanBound Z.sm))
  have o1 : (s.heap.update a (Obj.putSet es1 t2)).get? a = some (setObj es1 (ep + 1) t2) := put_at ho
  have b1 := Heap.SameBut.update s.heap a (Obj.putSet es1 t2)
  split
  · have z1 := relay_z Z.tab es1 (SetTable.grown es1.size)
    have z2 := relayAll_perm t2 es1 (SetTable.grown es1.size)
    have z3 := relayAll_fits t2 es1 (SetTable.grown es1.size)
    generalize relayAll t2 es1 (SetTable.grown es1.size) = Y at z1 z2 z3 ⊢
    have sz : Y.1.size = es1.size := by
      have := z2.length_eq
      rw [Array.length_toList, Array.length_toList] at this
      exact this
    refine wpAny_bind (hg _ _ _ (wpAny_bind (wpAny_storeSet_of o1 rfl ?_ (fits_of_scanBound (by rw [sz]; exact Z.sm)))))
    refine wpAny_pure (h _ (b1.trans (Heap.SameBut.update _ a _)) ⟨Y.1, _, Y.2.1, put_at o1, fun e he => Z.ent e (z2.mem_iff.mp he), (z2.map _).trans Z.perm, Z.nd, by rw [sz]; exact Z.sm, z3, z1⟩)
  · exact wpAny_pure (h _ b1 ⟨es1, _, t2, o1, Z⟩)
theorem setAdd_z {led : Bool} {a : Addr} {ks : List Int} {k : Int} {tk : Tok} {Q : Bool → Shared → Prop} (hS : SetZ led s.heap a ks) (hr : ks.length + 1 < scanBound)
    (h : ∀ (b : Bool) h', Heap.SameBut a s.heap h' → SetZ led h' a (step_dedup ks k) → Q b { s with heap := h' }) : wpAny (model prog w) A (setAddHashed a (.int k tk) (hashInt k)) Q E s := by
  obtain ⟨es, ep, t, ho, Z⟩ := hS
  have el := Z.ent.elems (prog := prog) (w := w)
  have ln := Z.len
  have any : ks.any (· == k) = true ↔ ∃ e ∈ es.toList, keyZ e = k := by
    rw [List.any_eq_true]
    constructor
    · rintro ⟨x, hx, e⟩
      obtain ⟨y, hy, rfl⟩ := List.mem_map.mp (Z.perm.mem_iff.mpr hx)
      exact ⟨y, hy, beq_iff_eq.mp e⟩
    · rintro ⟨e, he, rfl⟩
      exact ⟨keyZ e, Z.perm.mem_iff.mp (List.mem_map.mpr ⟨e, he, rfl⟩), beq_self_eq_true _⟩
  unfold setAddHashed setAddHashedIn
  refine wpAny_holding (wpAny_bind (wpAny_setState_of ho rfl Z.fit ?_))
  dsimp only
  rw [byScan_of (x := .int k tk) rfl Z.sm el]
  simp only [↓reduceIte]
  unfold setAddByScan
  refine wpAny_bind (wpAny_bind (wpAny_rule (wpAny_bind ?_)))
  refine wpAny_setScan_of (knd := intKind prog w) (k := k) (intKind_is _ _ _ _) ho rfl Z.fit el ?_
  cases hf : List.findIdx? (fun e => (intKind prog w).is k e.2) es.toList with
  | some j =>
    obtain ⟨hj, pj, _⟩ := List.findIdx?_eq_some_iff_getElem.mp hf
    have hk : keyZ es.toList[j] = k := by
      have q := (isInt_key (k := k) (Z.ent _ (List.getElem_mem hj))).symm.trans pj
      exact of_decide_eq_true q
    have ha : ks.any (· == k) = true := any.mpr ⟨_, List.getElem_mem hj, hk⟩
    dsimp only
    refine wpAny_pure (wpAny_pure (h false s.heap (Heap.SameBut.refl a s.heap) ⟨es, ep, t, ho, ?_⟩))
    unfold step_dedup
    rw [if_pos ha]
    exact Z
  | none =>
    have ha : ¬ ks.any (· == k) = true := fun z => by
      obtain ⟨e, he, hk⟩ := any.mp z
      have q := List.findIdx?_eq_none_iff.mp hf e he
      rw [show (intKind prog w).is k e.2 = decide (keyZ e = k) from isInt_key (Z.ent e he), decide_eq_true hk] at q
      cases q
    have hd : step_dedup ks k = ks ++ [k] := by unfold step_dedup; rw [if_neg ha]
    have n1 := layNew_perm t es (hashInt k) (.int k tk)
    have n2 := layNew_fits t es (hashInt k) (.int k tk)
    have n3 := layNew_z Z.tab es (hashInt k) (.int k tk)
    dsimp only
    generalize layNew t es (hashInt k) (.int k tk) = Y at n1 n2 n3 ⊢
    obtain ⟨es1, t1, wd, gv⟩ := Y
    dsimp only at n1 n2 n3 ⊢
    rw [Array.toList_push] at n1
    have sz : es1.size = es.size + 1 := by
      have := n1.length_eq
      rw [Array.length_toList, List.length_append, Array.length_toList] at this
      exact this
    have Z1 : SetO led es1 t1 (ks ++ [k]) := by
      refine ⟨fun e he => ?_, ?_, ?_, by omega, n2, n3⟩
      · rcases List.mem_append.mp (n1.mem_iff.mp he) with z | z
        · exact Z.ent e z
        · exact ⟨k, tk, List.mem_singleton.mp z⟩
      · refine (n1.map keyZ).trans ?_
        rw [List.map_append]
        exact Z.perm.append_right _
      · rw [List.nodup_append]
        refine ⟨Z.nd, (by simp), fun x hx y hy e => ha ?_⟩
        rw [List.mem_singleton.mp hy] at e
        subst e
        exact List.any_eq_true.mpr ⟨x, hx, beq_self_eq_true _⟩
    have gw : ∀ (b : Bool) (s₁ : Shared) (Q' : Unit → Shared → Prop), Q' () s₁ → wpAny (model prog w) A (match b with | true => rule "set.scan.the-table-gave-way" | false => pure ()) Q' E s₁ := fun b s₁ Q' q => by
      cases b
      · exact wpAny_pure q
      · exact wpAny_rule q
    refine wpAny_bind (gw _ _ _ ?_)
    split
    · refine wpAny_bind ?_
      rw [hashByValue_scannable 8 (x := .int k tk) rfl]
      refine wpAny_pure ?_
      refine tail_z gw ho ?_ fun h' sb q => wpAny_pure (h _ h' sb (by rw [hd]; exact q))
      exact Z1
    · refine wpAny_bind (wpAny_pure ?_)
      refine tail_z gw ho ?_ fun h' sb q => wpAny_pure (h _ h' sb (by rw [hd]; exact q))
      exact Z1
end
end L2
set_option Elab.async false
set_option linter.all false
set_option maxRecDepth 100000
set_option maxHeartbeats 1000000
namespace L2
open PySem PySem.Spec PyProof.Rows
def ledOf (w : World) : Bool := !w.params.followText "set-order"
theorem SetZ.keep {led : Bool} {h h' : Heap} {a : Addr} {ks : List Int} (z : SetZ led h a ks) (k : ∀ o, h.get? a = some o → h'.get? a = some o) : SetZ led h' a ks := by
  obtain ⟨es, ep, t, ho, Z⟩ := z
  exact ⟨es, ep, t, k _ ho, Z⟩
theorem setZ_new {led : Bool} {h : Heap} {a : Addr} (e : h.get? a = some (setObj #[] 0 (.fresh 0 0 led))) : SetZ led h a [] :=
  ⟨#[], 0, _, e, fun x hx => (by simp at hx), List.Perm.refl _, List.nodup_nil, by decide, rfl, tabZ_fresh led⟩
theorem dedup_len (ks : List Int) (k : Int) : (step_dedup ks k).length ≤ ks.length + 1 := by
  unfold step_dedup
  split
  · omega
  · rw [List.length_append]; exact Nat.le_refl _
theorem foldl_dedup_len : ∀ (ns ks : List Int), (ns.foldl step_dedup ks).length ≤ ks.length + ns.length
  | [], ks => Nat.le_refl _
  | n :: ns, ks => by
    have h1 := foldl_dedup_len ns (step_dedup ks n)
    have h2 := dedup_len ks n
    rw [List.foldl_cons, List.length_cons]
    omega
section
variable {prog : Program} {w : World} {A : Around} {E : Value → Shared → Prop} {s : Shared}
theorem new_z (a : Value) {Q₁ : Value → Shared → Prop} (h : Q₁ (.ref s.heap.objs.size) { s with heap := s.heap.push (setObj #[] 0 (.fresh 0 0 (ledOf w))) }) :
    codeAny (model prog w) A (.call (.builtin "set.__new__") ⟨[.type "set", a], []⟩) (wants Q₁ E) s := by
  refine codeAny_of_tree ?_
  show wpAny _ A.in1 (checkBuiltinCall "set.__new__" ⟨[.type "set", a], []⟩ >>= fun _ => again (.builtin "set.__new__" ⟨[.type "set", a], []⟩)) _ _ s
  refine wpAny_bind (wpAny_of_eq (PySem.F.newCall_set_1 a) (wpAny_pure ⟨plainId_quiet PySem.F.plain_set_new _, codeAny_builtin PySem.F.entry_set_new ?_⟩))
  rw [Around.under_plainId PySem.F.plain_set_new _]
  unfold Builtin.«set.__new__» Builtin.Frozenset.newClass
  have hsub := sub_set_self
  obtain ⟨h0, g, d, tk, os⟩ := s
  dsimp only
  wp_walk
  refine wpAny_askSetting (wpAny_pure ?_)
  dsimp only
  simp only [newObj]
  exact wpAny_bind (wpAny_alloc (wpAny_pure (wpAny_pure h)))
end
section
variable {prog : Program} {w : World} {A : Around} {R : Result → Shared → Prop} {I : Addr} {fp wr : List Addr} {G : Array GenState → Array GenState → Prop} {P : Nat → Value → Prop} {St : Nat → Shared → Prop}
theorem loop_z {ns : List Int} (W : WalksS prog w A.in1 I fp wr G ns.length P St) (S : Addr) (hSf : S ∉ fp) (hv : ∀ i v, P i v → ∃ k t, ns[i]? = some k ∧ v = .int k t) {led : Bool} :
    ∀ (m i : Nat) (s : Shared) (ks : List Int), ns.length - i = m → i ≤ ns.length → St i s → SetZ led s.heap S ks → ks.length + m + 1 < scanBound →
      (∀ s', Moved (S :: wr) G s s' → SetZ led s'.heap S ((ns.drop i).foldl step_dedup ks) → R (.ok (.ret .none)) s') → codeAny (model prog w) A (.builtin "set.update.loop" ⟨[.ref S, .ref I], []⟩) R s := by
  have hSw : S ∉ wr := fun h => hSf (W.sub _ h)
  have sub : ∀ b ∈ wr, b ∈ S :: wr := fun b hb => List.mem_cons_of_mem _ hb
  intro m
  induction m with
  | zero =>
    intro i s ks hm hi st hz hb hR
    have e : i = ns.length := by omega
    subst e
    refine codeAny_builtin F.entry_set_update_loop ?_
    rw [Around.under_plainId F.plain_set_update_loop _]
    show wpAny _ A.in1 (pyNext (.ref I) >>= _) _ _ s
    refine wpAny_bind (W.done s _ _ st fun s' mv => ?_)
    show wpAny _ A.in1 (ret Value.none) _ _ s'
    refine wpAny_pure (hR s' (mv.mono sub) ?_)
    rw [List.drop_length]
    exact hz.keep fun o e => mv.heap S _ hSw e
  | succ m ih =>
    intro i s ks hm hi st hz hb hR
    have hlt : i < ns.length := by omega
    refine codeAny_builtin F.entry_set_update_loop ?_
    rw [Around.under_plainId F.plain_set_update_loop _]
    show wpAny _ A.in1 (pyNext (.ref I) >>= _) _ _ s
    refine wpAny_bind (W.item i s _ _ hlt st fun v s' hP st' mv => ?_)
    obtain ⟨k, t, hk, rfl⟩ := hv i v hP
    have hz' : SetZ led s'.heap S ks := hz.keep fun o e => mv.heap S _ hSw e
    show wpAny _ A.in1 (holding [Value.int k t] (setAdd S (.int k t)) >>= _) _ _ s'
    refine wpAny_bind (wpAny_holding ?_)
    unfold setAdd
    refine wpAny_holding (wpAny_bind ((intKind prog w).pyHash (k := k) (intKind_is _ _ _ _) ?_))
    refine setAdd_z (s := { s' with toks := s'.toks + 1 }) hz' (by omega) fun b h' sb hz2 => ?_
    have dl := dedup_len ks k
    refine wpAny_pure ⟨plainId_quiet F.plain_set_update_loop _, ih (i + 1) _ (step_dedup ks k) (by omega) hlt (W.frame _ s' _ _ st' (Nat.le_succ _) fun b hb o e => ?_) hz2 (by omega) fun s'' mv' hz3 => ?_⟩
    · rw [sb.2 b fun h : b = S => hSf (by rw [← h]; exact hb)]
      exact e
    · refine hR s'' (Moved.trans W.gtrans ((mv.mono sub).then_heap (Nat.le_succ _) fun b o hb e => ?_) mv') ?_
      · rw [sb.2 b fun h : b = S => hb (by rw [h]; exact List.mem_cons_self)]
        exact e
      · rw [List.drop_eq_getElem_cons hlt, List.foldl_cons]
        rw [List.getElem?_eq_getElem hlt] at hk
        cases hk
        exact hz3
end
section
variable {prog : Program} {w : World} {A : Around} {E : Value → Shared → Prop} {s : Shared}
theorem callSet {arg : Value} {Q Q₁ : Value → Shared → Prop} (hn : codeAny (model prog w) A.in1 (.call (.builtin "set.__new__") ⟨[.type "set", arg], []⟩) (wants Q₁ E) s)
    (hx : ∀ ob s₁, Q₁ ob s₁ → s₁.TypeIs ob "set" ∧ wpAny (model prog w) A.in1.in1 (Builtin.«set.__init__» ⟨[ob, arg], []⟩)
        (fun fin s' => match fin with | .done f => wants (fun r s₂ => r = .none ∧ Q ob s₂) E (.ok f) s' | .again c' => c'.quiet = true ∧ codeAny (model prog w) A.in1 c' (wants (fun r s₂ => r = .none ∧ Q ob s₂) E) s') (fun e s' => wants (fun r s₂ => r = .none ∧ Q ob s₂) E (.error e) s') s₁) :
    wpAny (model prog w) A (call (.type "set") [arg]) Q E s := by
  obtain ⟨c, tl, hmro⟩ := PySem.F.called_set.mro
  have a1 := PySem.F.called_set.made
  have a2 := PySem.F.called_set.sub
  refine wpAny_call (codeAny_of_tree ?_)
  show wpAny _ _ (callAny (.type "set") _) _ _ _
  refine wpAny_pure ⟨Code.quiet_builtin _ (by decide +kernel), codeAny_builtin PySem.F.entry_type_call ?_⟩
  rw [Around.under_plain (weight_type_call_type "set" [arg] []) rfl]
  have a3 := PySem.F.called_set.notType
  have a4 := PySem.F.called_set.canCreate
  have a5 := PySem.F.typeCall_set_1 arg
  repeat (any_goals (first | assumption | wp_step))
  refine codeAny_mono hn fun r s₁ hr => ?_
  cases r with
  | error e => exact hr
  | ok fl =>
    cases fl with
    | ret ob =>
      obtain ⟨hT, hsi⟩ := hx _ _ hr
      have b1 := PySem.F.called_set.init.lookup
      have b2 := PySem.F.called_set.init.bind ob
      repeat (any_goals (first | assumption | wp_step))
      refine codeAny_mono (codeAny_call_builtin (R := wants (fun r s₂ => r = .none ∧ Q ob s₂) E) PySem.F.called_set.init.plain PySem.F.entry_set_init (PySem.check_set_init_1 hT hsi)) fun r₂ s₂ hr₂ => ?_
      cases r₂ with
      | error e => exact hr₂
      | ok fl₂ =>
        cases fl₂ with
        | ret r =>
          obtain ⟨rfl, hq⟩ := hr₂
          repeat (any_goals (first | assumption | wp_step))
        | _ => exact hr₂.elim
    | _ => exact hr.elim
theorem call_setZ {l : Addr} {vs : List Value} {ns : List Int} {Q : Value → Shared → Prop} (hh : A.handled = none) (hl : s.heap.IsList l vs.toArray) (hi : IntsAre vs ns) (hb : ns.length + 1 < scanBound)
    (h : ∀ (h' : Heap) (tk : Nat), SetZ (ledOf w) h' s.heap.objs.size (ns.foldl step_dedup []) → (∀ b o, s.heap.get? b = some o → h'.get? b = some o) → Q (.ref s.heap.objs.size) { s with heap := h', toks := tk }) :
    wpAny (model prog w) A (call (.type "set") [.ref l]) Q E s := by
  have vl : vs.length = ns.length := IntsAre.length hi
  refine callSet (Q₁ := fun obj s₁ => obj = .ref s.heap.objs.size ∧ s₁ = { s with heap := s.heap.push (setObj #[] 0 (.fresh 0 0 (ledOf w))) }) (new_z _ ⟨rfl, rfl⟩) fun obj s₁ h₁ => ?_
  obtain ⟨rfl, rfl⟩ := h₁
  have hS : (s.heap.push (setObj #[] 0 (.fresh 0 0 (ledOf w)))).get? s.heap.objs.size = some (setObj #[] 0 (.fresh 0 0 (ledOf w))) := Heap.get?_push_size _ rfl
  refine ⟨⟨_, hS, rfl⟩, ?_⟩
  have hl1 : (s.heap.push (setObj #[] 0 (.fresh 0 0 (ledOf w)))).IsList l vs.toArray := hl.push _
  obtain ⟨ol, hol, hcl, nl, hdl⟩ := hl
  have lS : l < s.heap.objs.size := Heap.lt_size hol
  obtain ⟨ocls, odict, odata, oslots⟩ := ol
  simp only at hcl hdl
  subst hcl; subst hdl
  have hol' := Heap.get?_push_of_some (setObj #[] 0 (.fresh 0 0 (ledOf w))) hol
  have f1 := PySem.F.sub_list_set
  have f2 := PySem.F.sub_list_frozenset
  have f3 : (Value.type "list" == Value.type "dict") = false := by decide
  unfold Builtin.«set.__init__» noKeywords Builtin.Frozenset.updateFrom
  generalize hPI : pyIter = PI
  wp_walk
  subst hPI
  refine wpAny_pyIter_list hl1 ?_
  refine wpAny_bind (wpAny_runValue ?_)
  have neI : l ≠ (s.heap.push (setObj #[] 0 (.fresh 0 0 (ledOf w)))).objs.size := by
    rw [Heap.size_push]; exact Nat.ne_of_lt (Nat.lt_succ_of_lt lS)
  have nSf : s.heap.objs.size ∉ [(s.heap.push (setObj #[] 0 (.fresh 0 0 (ledOf w)))).objs.size, l] := by
    rw [Heap.size_push]
    simp only [List.mem_cons, List.not_mem_nil, or_false, not_or]
    exact ⟨Nat.ne_of_lt (Nat.lt_succ_self _), Nat.ne_of_gt lS⟩
  have W := (Walks.list (prog := prog) (w := w) (A := A.in1.in1.in1) (by simp [hh]) _ l neI vs.toArray).toS
  rw [show vs.toArray.size = ns.length by rw [List.size_toArray]; exact vl] at W
  refine loop_z W s.heap.objs.size nSf (fun i v hv => ?_) (led := ledOf w) ns.length 0 _ [] (by omega) (Nat.zero_le _) ⟨⟨_, Heap.get?_push_size _ rfl, rfl, rfl⟩, hl1.push _⟩ (setZ_new (Heap.get?_push_of_some _ hS)) (by simpa using hb) fun s' mv hz => ?_
  · obtain ⟨t, e⟩ := IntsAre.int_at hi i v (by simpa using hv)
    have il : i < ns.length := by
      have := (List.getElem?_eq_some_iff.mp (show vs[i]? = some v by simpa using hv)).1
      omega
    exact ⟨ns[i], t, List.getElem?_eq_getElem il, by rw [e]; simp [il]⟩
  · obtain ⟨h', g', d', tk', os'⟩ := s'
    have eg : g' = s.gens := mv.gens
    have ed : d' = s.drawn := mv.drawn
    have eo : os' = s.os := mv.os
    subst eg; subst ed; subst eo
    show wpAny _ _ _ _ _ _
    refine wpAny_pure ?_
    show wpAny _ _ (ret Value.none) _ _ _
    refine wpAny_pure ⟨rfl, h h' tk' hz fun b o e => ?_⟩
    have hb1 : b < s.heap.objs.size := Heap.lt_size e
    refine mv.heap b o ?_ (Heap.get?_push_of_some _ (Heap.get?_push_of_some _ e))
    rw [Heap.size_push]
    simp only [List.mem_cons, List.not_mem_nil, or_false, not_or]
    exact ⟨Nat.ne_of_lt hb1, Nat.ne_of_lt (Nat.lt_succ_of_lt hb1)⟩
end
end L2
set_option Elab.async false
set_option linter.all false
set_option maxRecDepth 100000
set_option maxHeartbeats 1000000
namespace L2
open PySem PySem.Spec PyProof.Rows
theorem slot_si_next : Slot "set_iterator" "__next__" "set_iterator.__next__" :=
  .of (owner := "set_iterator") (n := "__next__") (by rw [typeLookup_type, builtinLookup_eq_fast]; kernel_rfl) (by decide +kernel) (by decide +kernel) (by decide +kernel) (by first | exact .inl (by decide +kernel) | exact .inr (by decide +kernel)) (by rw [isSubtype_type]; kernel_rfl)
theorem entry_si_next : entryFor table "set_iterator.__next__" = some Builtin.«set_iterator.__next__» := entryFor_of_tree (by kernel_rfl)
theorem args_si_next (a : Value) : argsOk "set_iterator.__next__" ⟨[a], []⟩ := by unfold argsOk; kernel_rfl
theorem entry_si : entryFor table "set.__iter__" = some Builtin.«frozenset.__iter__» := entryFor_alias (id' := "frozenset.__iter__") (by kernel_rfl) rfl (by decide +kernel) (by kernel_rfl)
abbrev itObj (f : Value) (i : Nat) (S : Addr) (n ep : Nat) : Obj := { cls := .type "set_iterator", dict := none, data := .fields #[f, .int i 0, .ref S, .int n 0, .int ep 0] }
section
variable {prog : Program} {w : World} {A : Around} {E : Value → Shared → Prop} {s : Shared} {it S : Addr} {f : Value} {i n ep : Nat} {es : Array (Int × Value)} {t : SetTable}
theorem next_some {sl nx : Nat} {x : Value} {Q : Option Value → Shared → Prop} (ho : s.heap.get? it = some (itObj (.int sl 0) i S n ep)) (hs : s.heap.get? S = some (setObj es ep t)) (fit : t.fits es.size = true) (hn : es.size = n)
    (hx : ∀ (A : Around) (E : Value → Shared → Prop) (Q : Option (Value × Nat) → Shared → Prop), Q (some (x, nx)) s → wpAny (model prog w) A (setNext S sl i ep) Q E s)
    (hQ : ∀ h', h'.get? it = some (itObj (.int nx 0) (i + 1) S n ep) → Heap.SameBut it s.heap h' → Q (some x) { s with heap := h' }) : wpAny (model prog w) A (pyNext (.ref it)) Q E s := by
  have hT : s.TypeIs (.ref it) "set_iterator" := ⟨_, ho, rfl⟩
  unfold pyNext
  refine wpAny_bind (wpAny_attempt (wpAny_callSpecial?_slot (name := Str.ofString "__next__") hT slot_si_next (wpAny_call_entry slot_si_next hT entry_si_next ?_ (args_si_next _))))
  unfold Builtin.«set_iterator.__next__»
  refine wpAny_bind (m := slotArgs _ _ _) (wpAny_pure ?_)
  refine wpAny_bind (wpAny_fieldsOf ho rfl ?_)
  dsimp only
  refine wpAny_bind (wpAny_setEntries_of hs rfl fit ?_)
  rw [if_neg (by rw [hn]; simp)]
  refine wpAny_bind ?_
  rw [Int.toNat_natCast, Int.toNat_natCast, Int.toNat_natCast]
  refine hx _ _ _ ?_
  dsimp only
  refine wpAny_bind (wpAny_setField_rec ho (by show 0 < 5; decide) fun h1 o1 b1 => ?_)
  refine wpAny_bind (wpAny_setField_rec (s := { s with heap := h1 }) o1 (by show 1 < 5; decide) fun h2 o2 b2 => ?_)
  exact wpAny_pure ⟨_, rfl, wpAny_pure (hQ h2 o2 (b1.trans b2))⟩
theorem stop_now {h1 : Heap} {Q : Option Value → Shared → Prop} {Q1 : Value → Shared → Prop} (hh : A.handled = none) (hQ : ∀ h', (∀ b o, h1.get? b = some o → h'.get? b = some o) → Q none { s with heap := h' }) :
    wpAny (model prog w) A.in1 (newExc (.type "StopIteration") [] >>= fun e => (raiseNew e : Sem Fin)) (fun fin s' => ∃ r, fin = .done (.ret r) ∧ Q1 r s') (fun e s' => wpAny (model prog w) A (isInstance e (.type "StopIteration") >>= fun b => if b = true then pure none else throw e) Q E s') { s with heap := h1 } := by
  refine wpAny_bind ?_
  simp only [newExc, newTuple]
  refine wpAny_bind (wpAny_newObj_type ?_ (by size_fits))
  refine wpAny_bind (m := firstArgMember _ _) (wpAny_of_eq (a := Value.none) (by first | rfl | (simp only [firstArgMember]; rfl)) ?_)
  refine wpAny_newObj_type ?_ (by size_fits)
  simp only [raiseNew]
  refine wpAny_bind (wpAny_handled ?_)
  rw [show A.in1.handled = none from hh]
  refine wpAny_bind (wpAny_pure (wpAny_throw ?_))
  refine wpAny_bind (wpAny_isInstance (T := "StopIteration") (b := true) ⟨_, Heap.get?_push_size _ rfl, rfl⟩ isSubtype_stop ?_)
  exact wpAny_pure (hQ _ fun b o e => Heap.get?_push_of_some _ (Heap.get?_push_of_some _ e))
theorem next_none {sl : Nat} {Q : Option Value → Shared → Prop} (hh : A.handled = none) (ho : s.heap.get? it = some (itObj (.int sl 0) i S n ep)) (hs : s.heap.get? S = some (setObj es ep t)) (fit : t.fits es.size = true) (hn : es.size = n)
    (hx : ∀ (A : Around) (E : Value → Shared → Prop) (Q : Option (Value × Nat) → Shared → Prop), Q none s → wpAny (model prog w) A (setNext S sl i ep) Q E s)
    (hQ : ∀ h', (∀ b o, b ≠ it → s.heap.get? b = some o → h'.get? b = some o) → Q none { s with heap := h' }) : wpAny (model prog w) A (pyNext (.ref it)) Q E s := by
  have hT : s.TypeIs (.ref it) "set_iterator" := ⟨_, ho, rfl⟩
  unfold pyNext
  refine wpAny_bind (wpAny_attempt (wpAny_callSpecial?_slot (name := Str.ofString "__next__") hT slot_si_next (wpAny_call_entry slot_si_next hT entry_si_next ?_ (args_si_next _))))
  unfold Builtin.«set_iterator.__next__»
  refine wpAny_bind (m := slotArgs _ _ _) (wpAny_pure ?_)
  refine wpAny_bind (wpAny_fieldsOf ho rfl ?_)
  dsimp only
  refine wpAny_bind (wpAny_setEntries_of hs rfl fit ?_)
  rw [if_neg (by rw [hn]; simp)]
  refine wpAny_bind ?_
  rw [Int.toNat_natCast, Int.toNat_natCast, Int.toNat_natCast]
  refine hx _ _ _ ?_
  dsimp only
  refine wpAny_bind (wpAny_setField_rec ho (by show 2 < 5; decide) fun h1 o1 b1 => ?_)
  exact stop_now (s := s) hh fun h' k => hQ h' fun b o ne e => k b o ((b1.2 b ne).trans e)
theorem next_drawn {tp : Addr} {pl : Array Value} {j : Nat} {tk : Tok} {x : Int × Value} {Q : Option Value → Shared → Prop} (ho : s.heap.get? it = some (itObj (.ref tp) i S n ep)) (hs : s.heap.get? S = some (setObj es ep t)) (fit : t.fits es.size = true) (hn : es.size = n)
    (ht : s.heap.IsTuple tp pl) (hp : pl[i]? = some (.int j tk)) (hx : es[j]? = some x)
    (hQ : ∀ h', h'.get? it = some (itObj (.ref tp) (i + 1) S n ep) → Heap.SameBut it s.heap h' → Q (some x.2) { s with heap := h' }) : wpAny (model prog w) A (pyNext (.ref it)) Q E s := by
  have hT : s.TypeIs (.ref it) "set_iterator" := ⟨_, ho, rfl⟩
  obtain ⟨ot, hot, _, nt, hdt⟩ := ht
  unfold pyNext
  refine wpAny_bind (wpAny_attempt (wpAny_callSpecial?_slot (name := Str.ofString "__next__") hT slot_si_next (wpAny_call_entry slot_si_next hT entry_si_next ?_ (args_si_next _))))
  unfold Builtin.«set_iterator.__next__»
  refine wpAny_bind (m := slotArgs _ _ _) (wpAny_pure ?_)
  refine wpAny_bind (wpAny_fieldsOf ho rfl ?_)
  dsimp only
  refine wpAny_bind (wpAny_setEntries_of hs rfl fit ?_)
  rw [if_neg (by rw [hn]; simp)]
  refine wpAny_bind (wpAny_seqItems hot hdt ?_)
  dsimp only
  rw [Int.toNat_natCast, hp]
  dsimp only
  refine wpAny_bind ?_
  unfold setNextDrawn
  refine wpAny_bind (wpAny_setState_of hs rfl fit ?_)
  dsimp only
  rw [Int.toNat_natCast, Int.toNat_natCast, if_neg (by simp), hx]
  refine wpAny_pure ?_
  refine wpAny_bind (wpAny_setField_rec ho (by show 1 < 5; decide) fun h1 o1 b1 => ?_)
  exact wpAny_pure ⟨_, rfl, wpAny_pure (hQ h1 o1 b1)⟩
theorem next_drawn_end {tp : Addr} {pl : Array Value} {Q : Option Value → Shared → Prop} (hh : A.handled = none) (ho : s.heap.get? it = some (itObj (.ref tp) i S n ep)) (hs : s.heap.get? S = some (setObj es ep t)) (fit : t.fits es.size = true) (hn : es.size = n)
    (ht : s.heap.IsTuple tp pl) (hp : pl[i]? = none) (hQ : ∀ h', (∀ b o, b ≠ it → s.heap.get? b = some o → h'.get? b = some o) → Q none { s with heap := h' }) : wpAny (model prog w) A (pyNext (.ref it)) Q E s := by
  have hT : s.TypeIs (.ref it) "set_iterator" := ⟨_, ho, rfl⟩
  obtain ⟨ot, hot, _, nt, hdt⟩ := ht
  unfold pyNext
  refine wpAny_bind (wpAny_attempt (wpAny_callSpecial?_slot (name := Str.ofString "__next__") hT slot_si_next (wpAny_call_entry slot_si_next hT entry_si_next ?_ (args_si_next _))))
  unfold Builtin.«set_iterator.__next__»
  refine wpAny_bind (m := slotArgs _ _ _) (wpAny_pure ?_)
  refine wpAny_bind (wpAny_fieldsOf ho rfl ?_)
  dsimp only
  refine wpAny_bind (wpAny_setEntries_of hs rfl fit ?_)
  rw [if_neg (by rw [hn]; simp)]
  refine wpAny_bind (wpAny_seqItems hot hdt ?_)
  dsimp only
  rw [Int.toNat_natCast, hp]
  dsimp only
  refine wpAny_bind (wpAny_setField_rec ho (by show 0 < 5; decide) fun h1 o1 b1 => ?_)
  refine wpAny_bind (wpAny_setField_rec (s := { s with heap := h1 }) o1 (by show 2 < 5; decide) fun h2 o2 b2 => ?_)
  exact stop_now (s := s) hh fun h' k => hQ h' fun b o ne e => k b o ((b2.2 b ne).trans ((b1.2 b ne).trans e))
end
end L2
set_option Elab.async false
set_option linter.all false
set_option maxRecDepth 100000
set_option maxHeartbeats 1000000
namespace L2
open PySem PySem.Spec PyProof.Rows
def slotZ (pl : Array Nat) (i : Nat) : Nat := if i = 0 then 0 else pl.getD (i - 1) 0 + 1
theorem below_slot {pl : Array Nat} (R : Rise pl) {i : Nat} (hi : i ≤ pl.size) : SetTable.below pl (slotZ pl i) = i := by
  obtain ⟨b1, b2, b3⟩ := below_ok R (slotZ pl i)
  generalize hb : SetTable.below pl (slotZ pl i) = b at b1 b2 b3
  have gd : ∀ k (h : k < pl.size), pl.getD k 0 = pl[k] := fun k h => by simp [h]
  by_cases z : i = 0
  · subst z
    by_cases q : b = 0
    · exact q
    · have := b2 0 (by omega) (by omega)
      unfold slotZ at this
      rw [if_pos rfl] at this
      omega
  · have hl : i - 1 < pl.size := by omega
    have es : slotZ pl i = pl[i - 1] + 1 := by unfold slotZ; rw [if_neg z, gd _ hl]
    rw [es] at b2 b3
    rcases Nat.lt_trichotomy b i with q | q | q
    · have h1 := b3 b (by omega) (Nat.le_refl _)
      by_cases y : b = i - 1
      · subst y; omega
      · have := R b (i - 1) (by omega) hl (by omega)
        omega
    · exact q
    · have h1 := b2 i (by omega) q
      have := R (i - 1) i hl (by omega) (by omega)
      omega
theorem cons_erase {α : Type} {xs : List α} {j : Nat} (h : j < xs.length) : (xs[j] :: xs.eraseIdx j).Perm xs := by
  have e : xs.take j ++ xs[j] :: xs.drop (j + 1) = xs := by rw [← List.drop_eq_getElem_cons h, List.take_append_drop]
  rw [List.eraseIdx_eq_take_drop_succ]
  exact (List.perm_middle.symm).trans (List.Perm.of_eq e)
theorem pick_go {α : Type} (nx : Nat → Nat) : ∀ (fuel k : Nat) (left : List α) (out : Array α), left.length = fuel → ((pickOrder.go nx fuel k left out).toList).Perm (out.toList ++ left)
  | 0, k, left, out, h => by
    have : left = [] := List.eq_nil_of_length_eq_zero h
    subst this
    rw [pickOrder.go, List.append_nil]
  | fuel + 1, k, left, out, h => by
    have hl : nx k % left.length < left.length := Nat.mod_lt _ (by omega)
    have e := List.getElem?_eq_getElem hl
    rw [pickOrder.go, e]
    dsimp only
    refine (pick_go nx fuel (k + 1) _ _ (by rw [List.length_eraseIdx_of_lt hl]; omega)).trans ?_
    rw [Array.toList_push, List.append_assoc]
    refine List.Perm.append_left _ ?_
    exact cons_erase hl
theorem pick_perm {α : Type} (nx : Nat → Nat) (xs : Array α) : ((pickOrder nx xs).toList).Perm xs.toList := by
  unfold pickOrder
  have := pick_go nx xs.size 0 xs.toList #[] (by simp)
  simpa using this
section
variable {prog : Program} {w : World} {A : Around} {E : Value → Shared → Prop} {s : Shared} {S : Addr} {i ep : Nat} {es : Array (Int × Value)} {t : SetTable} {ks : List Int}
theorem byText_wp {Q : Bool → Shared → Prop} (h : Q (w.params.followText "set-order") s) : wpAny (model prog w) A setsByText Q E s := by
  unfold setsByText
  exact wpAny_bind (wpAny_askSetting (wpAny_pure h))
theorem setNext_p {Q : Option (Value × Nat) → Shared → Prop} (hs : s.heap.get? S = some (setObj es ep t)) (Z : SetO (ledOf w) es t ks) (hb : w.params.followText "set-order" = false) (hd : (!t.plain && decide (es.size > 1)) = false) (hi : i ≤ es.size)
    (h : Q (if h : i < es.size then some (es[i].2, slotZ t.place (i + 1)) else none) s) : wpAny (model prog w) A (setNext S (slotZ t.place i) i ep) Q E s := by
  have ps : t.place.size = es.size := by
    have := Z.fit
    unfold SetTable.fits at this
    simp at this
    exact this.1
  have hl : t.led = true := by rw [Z.tab.led_]; unfold ledOf; rw [hb]; rfl
  unfold setNext
  refine wpAny_bind (wpAny_setState_of hs rfl Z.fit ?_)
  dsimp only
  refine wpAny_bind (byText_wp ?_)
  rw [hb, if_neg Bool.false_ne_true]
  show wpAny _ _ (if (!t.plain && decide (es.size > 1)) = true then _ else _) _ _ _
  rw [if_neg (by rw [hd]; exact Bool.false_ne_true)]
  show wpAny _ _ ((if (!t.led && !es.isEmpty) = true then unsupported "set:maker-not-led" else pure ()) >>= _) _ _ _
  rw [hl]
  refine wpAny_bind (wpAny_pure ?_)
  rw [below_slot Z.tab.rise (by omega)]
  refine wpAny_pure ?_
  by_cases z : i < es.size
  · rw [dif_pos z] at h
    have e1 : es[i]? = some es[i] := Array.getElem?_eq_getElem z
    have zl : i < t.place.size := by omega
    have e2 : t.place[i]? = some t.place[i] := Array.getElem?_eq_getElem zl
    rw [e1, e2]
    have e3 : slotZ t.place (i + 1) = t.place[i] + 1 := by
      unfold slotZ
      rw [if_neg (by omega), Nat.add_sub_cancel]
      simp [zl]
    rw [e3] at h
    exact h
  · rw [dif_neg z] at h
    rw [Array.getElem?_eq_none (by omega)]
    exact h
theorem setNext_t {Q : Option (Value × Nat) → Shared → Prop} (hs : s.heap.get? S = some (setObj es ep t)) (Z : SetO (ledOf w) es t ks) (hb : w.params.followText "set-order" = true)
    (h : Q (((pickOrder (w.params.setOrder S ep) es)[i]?).map fun e => (e.2, 0)) s) : wpAny (model prog w) A (setNext S 0 i ep) Q E s := by
  unfold setNext
  refine wpAny_bind (wpAny_setState_of hs rfl Z.fit ?_)
  dsimp only
  refine wpAny_bind (byText_wp ?_)
  rw [hb, if_pos rfl, if_neg (by simp)]
  refine wpAny_bind ?_
  unfold setWalk
  refine wpAny_bind (wpAny_setState_of hs rfl Z.fit ?_)
  dsimp only
  refine wpAny_bind (byText_wp ?_)
  rw [hb, if_pos rfl]
  refine wpAny_bind (wpAny_askSetting (wpAny_pure (wpAny_pure h)))
theorem choose_wp {src : Source} {n : Nat} {Q : Nat → Shared → Prop} (hn : n ≠ 0) (h : ∀ (j : Nat) (d : Drawn), j < n → Q j { s with drawn := d }) : wpAny (model prog w) A (choose src n) Q E s := fun Γ p hΓ => by
  unfold choose
  rw [Sem.wp_choose]
  exact ⟨hn, h _ _ (Nat.mod_lt _ (by omega))⟩
theorem draw_wp {α : Type} {Q : List α → Shared → Prop} : ∀ (n : Nat) (xs : List α) (s : Shared), xs.length = n → (∀ (ys : List α) (d : Drawn), ys.Perm xs → Q ys { s with drawn := d }) → wpAny (model prog w) A (drawOrder n xs) Q E s
  | 0, xs, s, hl, h => by
    have : xs = [] := List.eq_nil_of_length_eq_zero hl
    subst this
    rw [drawOrder]
    exact wpAny_pure (h [] s.drawn (List.Perm.refl _))
  | n + 1, [], s, hl, h => by cases hl
  | n + 1, x :: r, s, hl, h => by
    rw [drawOrder]
    · refine wpAny_bind (choose_wp (by rw [hl]; omega) fun j d hj => ?_)
      have e := List.getElem?_eq_getElem hj
      rw [e]
      dsimp only
      refine wpAny_bind (draw_wp n _ _ (by rw [List.length_eraseIdx_of_lt hj]; omega) fun ys d' hp => wpAny_pure (h _ d' ?_))
      exact (List.Perm.cons _ hp).trans (cons_erase hj)
    · intro z; cases z
end
end L2
set_option Elab.async false
set_option linter.all false
set_option maxRecDepth 100000
set_option maxHeartbeats 1000000
namespace L2
open PySem PySem.Spec PyProof.Rows
theorem slot_siI : Slot "set_iterator" "__iter__" "set_iterator.__iter__" :=
  .of (owner := "set_iterator") (n := "__iter__") (by rw [typeLookup_type, builtinLookup_eq_fast]; kernel_rfl) (by decide +kernel) (by decide +kernel) (by decide +kernel) (by first | exact .inl (by decide +kernel) | exact .inr (by decide +kernel)) (by rw [isSubtype_type]; kernel_rfl)
theorem entry_siI : entryFor table "set_iterator.__iter__" = some Builtin.«dict_keyiterator.__iter__» := entryFor_alias (id' := "dict_keyiterator.__iter__") (by kernel_rfl) rfl (by decide +kernel) (by kernel_rfl)
theorem args_siI (a : Value) : argsOk "set_iterator.__iter__" ⟨[a], []⟩ := by unfold argsOk; kernel_rfl
theorem ints_of {es : List (Int × Value)} (h : EntZ es) : IntsAre (es.map (·.2)) (es.map keyZ) := by
  induction es with
  | nil => exact .nil
  | cons e r ih =>
    obtain ⟨k, tk, rfl⟩ := h e List.mem_cons_self
    exact .cons k tk (ih fun x hx => h x (List.mem_cons_of_mem _ hx))
section
variable {prog : Program} {w : World} {A : Around} {E : Value → Shared → Prop} {s : Shared} {S it : Addr} {ep : Nat} {es : Array (Int × Value)} {t : SetTable} {ks : List Int}
theorem self_z {f : Value} {i n : Nat} {Q : Value → Shared → Prop} (ho : s.heap.get? it = some (itObj f i S n ep)) (h : Q (.ref it) s) : wpAny (model prog w) A (pyIter (.ref it)) Q E s := by
  have hT : s.TypeIs (.ref it) "set_iterator" := ⟨_, ho, rfl⟩
  refine wpAny_pyIter_slot hT slot_siI (wpAny_call_entry slot_siI hT entry_siI ?_ (args_siI _))
  show wpAny _ _ (ret (.ref it)) _ _ s
  exact wpAny_pure ⟨_, rfl, "set_iterator", _, hT, slot_si_next.lookup, h⟩
theorem walks_p (hh : A.handled = none) (ne : S ≠ it) (Z : SetO (ledOf w) es t ks) (hb : w.params.followText "set-order" = false) (hd : (!t.plain && decide (es.size > 1)) = false) :
    Walks prog w A it [it, S] [it] (es.toList.map (·.2)).length (fun i v => (es.toList.map (·.2))[i]? = some v) (fun i h => i ≤ es.size ∧ h.get? it = some (itObj (.int (slotZ t.place i) 0) i S es.size ep) ∧ h.get? S = some (setObj es ep t)) where
  sub := fun b hb => by simp at hb; simp [hb]
  frame := fun i h h' st k => ⟨st.1, k it (by simp) _ st.2.1, k S (by simp) _ st.2.2⟩
  item := fun i s Q E hi st hQ => by
    rw [List.length_map, Array.length_toList] at hi
    refine next_some (x := es[i].2) (nx := slotZ t.place (i + 1)) st.2.1 st.2.2 Z.fit rfl (fun A E Q q => setNext_p st.2.2 Z hb hd st.1 (by rw [dif_pos hi]; exact q)) fun h' o1 b1 => ?_
    refine hQ _ h' s.toks ?_ ⟨hi, o1, (b1.2 S ne).trans st.2.2⟩ fun b o hb e => (b1.2 b fun z => hb (by simp [z])).trans e
    rw [List.getElem?_map, Array.getElem?_toList, Array.getElem?_eq_getElem hi]
    rfl
  done := fun s Q E st hQ => by
    rw [List.length_map, Array.length_toList] at st
    exact next_none hh st.2.1 st.2.2 Z.fit rfl (fun A E Q q => setNext_p st.2.2 Z hb hd st.1 (by rw [dif_neg (Nat.lt_irrefl _)]; exact q)) fun h' k => hQ h' s.toks fun b o hb e => k b o (fun z => hb (by simp [z])) e
  self := fun i s Q E st hQ => self_z st.2.1 hQ
theorem walks_t (hh : A.handled = none) (ne : S ≠ it) (Z : SetO (ledOf w) es t ks) (hb : w.params.followText "set-order" = true) :
    Walks prog w A it [it, S] [it] ((pickOrder (w.params.setOrder S ep) es).toList.map (·.2)).length (fun i v => ((pickOrder (w.params.setOrder S ep) es).toList.map (·.2))[i]? = some v) (fun i h => h.get? it = some (itObj (.int 0 0) i S es.size ep) ∧ h.get? S = some (setObj es ep t)) where
  sub := fun b hb => by simp at hb; simp [hb]
  frame := fun i h h' st k => ⟨k it (by simp) _ st.1, k S (by simp) _ st.2⟩
  item := fun i s Q E hi st hQ => by
    rw [List.length_map] at hi
    have e := List.getElem?_eq_getElem hi
    generalize (pickOrder (w.params.setOrder S ep) es).toList[i] = y at e
    refine next_some (sl := 0) (nx := 0) (x := y.2) st.1 st.2 Z.fit rfl (fun A E Q q => setNext_t st.2 Z hb (by rw [← Array.getElem?_toList, e]; exact q)) fun h' o1 b1 => ?_
    refine hQ _ h' s.toks ?_ ⟨o1, (b1.2 S ne).trans st.2⟩ fun b o hb e => (b1.2 b fun z => hb (by simp [z])).trans e
    rw [List.getElem?_map, e]
    rfl
  done := fun s Q E st hQ => by
    refine next_none (sl := 0) hh st.1 st.2 Z.fit rfl (fun A E Q q => setNext_t st.2 Z hb ?_) fun h' k => hQ h' s.toks fun b o hb e => k b o (fun z => hb (by simp [z])) e
    rw [← Array.getElem?_toList, List.getElem?_eq_none (by rw [List.length_map]; exact Nat.le_refl _)]
    exact q
  self := fun i s Q E st hQ => self_z st.1 hQ
theorem walks_d {tp : Addr} {js : List Nat} (hh : A.handled = none) (ne : S ≠ it) (nt : tp ≠ it) (Z : SetO (ledOf w) es t ks) (hj : js.Perm (List.range es.size)) :
    Walks prog w A it [it, S, tp] [it] (js.filterMap fun j => (es[j]?).map (·.2)).length (fun i v => (js.filterMap fun j => (es[j]?).map (·.2))[i]? = some v)
      (fun i h => h.get? it = some (itObj (.ref tp) i S es.size ep) ∧ h.get? S = some (setObj es ep t) ∧ h.IsTuple tp (js.map fun (j : Nat) => rawInt j).toArray) := by
  have jl : ∀ j ∈ js, j < es.size := fun j h => List.mem_range.mp (hj.mem_iff.mp h)
  have e0 : js.filterMap (fun j => (es[j]?).map (·.2)) = js.map fun j => (es.getD j (0, .none)).2 := by
    clear hj
    induction js with
    | nil => rfl
    | cons j r ih =>
      have := jl j List.mem_cons_self
      rw [List.map_cons, ← ih fun x hx => jl x (List.mem_cons_of_mem _ hx), List.filterMap_cons]
      simp [this]
  rw [e0]
  refine ⟨fun b hb => by simp at hb; simp [hb], fun i h h' st k => ⟨k it (by simp) _ st.1, k S (by simp) _ st.2.1, ?_⟩, fun i s Q E hi st hQ => ?_, fun s Q E st hQ => ?_, fun i s Q E st hQ => self_z st.1 hQ⟩
  · obtain ⟨o, ho, r⟩ := st.2.2
    exact ⟨o, k tp (by simp) _ ho, r⟩
  · rw [List.length_map] at hi
    have e := List.getElem?_eq_getElem hi
    have hm := jl _ (List.getElem_mem hi)
    generalize js[i] = j at e hm
    refine next_drawn (j := j) (tk := 0) (x := es[j]) st.1 st.2.1 Z.fit rfl st.2.2 (by simp [e, rawInt]) (Array.getElem?_eq_getElem hm) fun h' o1 b1 => ?_
    refine hQ _ h' s.toks ?_ ⟨o1, (b1.2 S ne).trans st.2.1, ?_⟩ fun b o hb e => (b1.2 b fun z => hb (by simp [z])).trans e
    · rw [List.getElem?_map, e]
      simp [hm]
    · obtain ⟨o, ho, r⟩ := st.2.2
      exact ⟨o, (b1.2 tp nt).trans ho, r⟩
  · refine next_drawn_end hh st.1 st.2.1 Z.fit rfl st.2.2 (by simp) fun h' k => hQ h' s.toks fun b o hb e => k b o (fun z => hb (by simp [z])) e
theorem iter_z {Q : Value → Shared → Prop} (hh : A.handled = none) (hs : s.heap.get? S = some (setObj es ep t)) (Z : SetO (ledOf w) es t ks)
    (h : ∀ (h' : Heap) (d : Drawn) (it : Addr) (fp : List Addr) (vs : List Value) (ns : List Int) (St : Nat → Heap → Prop), (∀ b o, s.heap.get? b = some o → h'.get? b = some o) → s.heap.objs.size ≤ it → (∀ b ∈ fp, b = S ∨ (s.heap.objs.size ≤ b ∧ b < h'.objs.size)) → it < h'.objs.size → IntsAre vs ns → ns.Perm ks →
      Walks prog w A it fp [it] vs.length (fun i v => vs[i]? = some v) St → St 0 h' → Q (.ref it) { s with heap := h', drawn := d }) : wpAny (model prog w) A (pyIter (.ref S)) Q E s := by
  have hT : s.TypeIs (.ref S) "set" := ⟨_, hs, rfl⟩
  have Sl : S < s.heap.objs.size := Heap.lt_size hs
  refine wpAny_pyIter_slot hT PySem.F.slot_set_iter (wpAny_call_entry PySem.F.slot_set_iter hT entry_si ?_ (PySem.F.args_set_iter_1 _))
  unfold Builtin.«frozenset.__iter__» Builtin.Frozenset.slot0 Builtin.Frozenset.sizeOf
  refine wpAny_bind (wpAny_pure ?_)
  refine wpAny_bind (wpAny_bind (wpAny_setEntries_of hs rfl Z.fit (wpAny_pure ?_)))
  refine wpAny_bind ?_
  unfold setDrawn
  refine wpAny_bind (wpAny_setState_of hs rfl Z.fit ?_)
  dsimp only
  refine wpAny_bind (byText_wp (wpAny_pure ?_))
  have fin : ∀ (h1 : Heap) (d : Drawn) (f : Value) (fp : List Addr) (vs : List Value) (ns : List Int) (St : Nat → Heap → Prop), (∀ b o, s.heap.get? b = some o → h1.get? b = some o) → s.heap.objs.size ≤ h1.objs.size → (∀ b ∈ fp, b = S ∨ (s.heap.objs.size ≤ b ∧ b ≤ h1.objs.size)) →
      IntsAre vs ns → ns.Perm ks → Walks prog w A h1.objs.size fp [h1.objs.size] vs.length (fun i v => vs[i]? = some v) St → St 0 (h1.push (itObj f 0 S es.size ep)) →
      wpAny (model prog w) A.in1 (setEpoch S >>= fun e => newFields "set_iterator" [f, rawInt 0, .ref S, rawInt es.size, rawInt e] >>= fun v => ret v) (fun fin s' => ∃ r, fin = .done (.ret r) ∧ ∃ T' r', s'.TypeIs r T' ∧ typeLookup (.type T') "__next__" = pure (some r') ∧ Q r s') E { s with heap := h1, drawn := d } := by
    intro h1 d f fp vs ns St kp sz hfp hi hp W st
    refine wpAny_bind (wpAny_setEpoch_of (kp _ _ hs) rfl Z.fit ?_)
    unfold newFields
    refine wpAny_bind (wpAny_newObj_type (wpAny_pure ⟨_, rfl, "set_iterator", _, ⟨_, Heap.get?_push_size _ rfl, rfl⟩, slot_si_next.lookup, ?_⟩) (by size_fits))
    exact h (h1.push (itObj f 0 S es.size ep)) d h1.objs.size fp vs ns St (fun b o e => Heap.get?_push_of_some _ (kp b o e)) sz (fun b hb => (hfp b hb).imp id fun q => ⟨q.1, by rw [Heap.size_push]; exact Nat.lt_succ_of_le q.2⟩) (by rw [Heap.size_push]; exact Nat.lt_succ_self _) hi hp W st
  have neS : S ≠ s.heap.objs.size := Nat.ne_of_lt Sl
  by_cases hb : w.params.followText "set-order" = true
  · rw [hb]
    have c1 : (!true && (!t.plain && decide (es.size > 1))) = false := rfl
    show wpAny _ _ (if (!true && (!t.plain && decide (es.size > 1))) = true then _ else _) _ _ _
    rw [c1, if_neg Bool.false_ne_true]
    refine wpAny_bind (wpAny_pure ?_)
    have pp := pick_perm (w.params.setOrder S ep) es
    have ent : EntZ (pickOrder (w.params.setOrder S ep) es).toList := fun e he => Z.ent e (pp.mem_iff.mp he)
    exact fin s.heap s.drawn (.int 0 0) _ _ _ _ (fun _ _ e => e) (Nat.le_refl _) (fun b hb => by
      simp only [List.mem_cons, List.not_mem_nil, or_false] at hb
      rcases hb with e | e
      · exact .inr ⟨Nat.le_of_eq e.symm, Nat.le_of_eq e⟩
      · exact .inl e) (ints_of ent) ((pp.map keyZ).trans Z.perm) (walks_t hh neS Z hb) ⟨Heap.get?_push_size _ rfl, Heap.get?_push_of_some _ hs⟩
  · have hb : w.params.followText "set-order" = false := by simpa using hb
    rw [hb]
    show wpAny _ _ (if (!false && (!t.plain && decide (es.size > 1))) = true then _ else _) _ _ _
    by_cases hd : (!t.plain && decide (es.size > 1)) = true
    · rw [hd, if_pos (by rfl)]
      refine wpAny_bind (draw_wp (prog := prog) (w := w) es.size (List.range es.size) s (List.length_range) fun js d hj => ?_)
      refine wpAny_bind (wpAny_newTuple ?_ (by rw [List.length_map, hj.length_eq, List.length_range]; exact fits_of_scanBound Z.sm))
      have nt : s.heap.objs.size ≠ (s.heap.push { cls := .type "tuple", data := .seq (js.map fun (j : Nat) => rawInt j).toArray }).objs.size := by rw [Heap.size_push]; first | exact Nat.ne_of_lt (Nat.lt_succ_self _) | exact Nat.ne_of_lt (Nat.lt_succ_of_lt Sl)
      have nS : S ≠ (s.heap.push { cls := .type "tuple", data := .seq (js.map fun (j : Nat) => rawInt j).toArray }).objs.size := by rw [Heap.size_push]; first | exact Nat.ne_of_lt (Nat.lt_succ_self _) | exact Nat.ne_of_lt (Nat.lt_succ_of_lt Sl)
      have e0 : js.filterMap (fun j => (es[j]?).map (·.2)) = (js.filterMap (fun j => es[j]?)).map (·.2) := by
        rw [List.map_filterMap]
      have pp : (js.filterMap (fun j => es[j]?)).Perm es.toList := by
        have := hj.filterMap (fun j => es[j]?)
        rw [filterMap_getElem?_range] at this
        exact this
      have ent : EntZ (js.filterMap (fun j => es[j]?)) := fun e he => Z.ent e (pp.mem_iff.mp he)
      have ii := ints_of ent
      rw [← e0] at ii
      exact fin _ d (.ref s.heap.objs.size) _ _ _ _ (fun b o e => Heap.get?_push_of_some _ e) (by rw [Heap.size_push]; exact Nat.le_succ _) (fun b hb => by
        simp only [List.mem_cons, List.not_mem_nil, or_false] at hb
        rcases hb with e | e | e
        · exact .inr ⟨by rw [e, Heap.size_push]; exact Nat.le_succ _, Nat.le_of_eq e⟩
        · exact .inl e
        · exact .inr ⟨Nat.le_of_eq e.symm, by rw [e, Heap.size_push]; exact Nat.le_succ _⟩) ii ((pp.map keyZ).trans Z.perm) (walks_d hh nS nt Z hj) ⟨Heap.get?_push_size _ rfl, Heap.get?_push_of_some _ (Heap.get?_push_of_some _ hs), ⟨_, Heap.get?_push_of_some _ (Heap.get?_push_size _ rfl), rfl, 0, rfl⟩⟩
    · have hd : (!t.plain && decide (es.size > 1)) = false := by simpa using hd
      rw [hd, if_neg (by simp)]
      refine wpAny_bind (wpAny_pure ?_)
      exact fin s.heap s.drawn (.int 0 0) _ _ _ _ (fun _ _ e => e) (Nat.le_refl _) (fun b hb => by
        simp only [List.mem_cons, List.not_mem_nil, or_false] at hb
        rcases hb with e | e
        · exact .inr ⟨Nat.le_of_eq e.symm, Nat.le_of_eq e⟩
        · exact .inl e) (ints_of Z.ent) Z.perm (walks_p hh neS Z hb hd) ⟨Nat.zero_le _, Heap.get?_push_size _ rfl, Heap.get?_push_of_some _ hs⟩
end
end L2
set_option Elab.async false
set_option linter.all false
set_option maxRecDepth 100000
set_option maxHeartbeats 1000000
namespace L2
open PySem PySem.Spec PyProof.Rows
structure Src (prog : Program) (w : World) (T : String) (r : Addr) (C : Nat → (Nat → Value → Prop) → Prop) (OK : Heap → Prop) : Prop where
  ty : ∀ s : Shared, OK s.heap → s.TypeIs (.ref r) T
  keep : ∀ h h' : Heap, OK h → (∀ o, h.get? r = some o → h'.get? r = some o) → OK h'
  nl : (Value.type T == Value.type "list") = false
  nt : (Value.type T == Value.type "tuple") = false
  hint : ∀ (A : Around) (E : Value → Shared → Prop) (s : Shared) (Q : Bool → Shared → Prop), OK s.heap → Q false s → wpAny (model prog w) A (Builtin.List.listLengthHint (.ref r)) Q E s
  iter : ∀ (A : Around) (E : Value → Shared → Prop) (s : Shared) (Q : Value → Shared → Prop), A.handled = none → OK s.heap →
    (∀ (h' : Heap) (d : Drawn) (it : Addr) (fp : List Addr) (n : Nat) (P : Nat → Value → Prop) (St : Nat → Heap → Prop), (∀ b o, s.heap.get? b = some o → h'.get? b = some o) → s.heap.objs.size ≤ it → (∀ b ∈ fp, b = r ∨ (s.heap.objs.size ≤ b ∧ b < h'.objs.size)) → C n P →
      Walks prog w A it fp [it] n P St → St 0 h' → Q (.ref it) { s with heap := h', drawn := d }) → wpAny (model prog w) A (pyIter (.ref r)) Q E s
section
variable {prog : Program} {w : World} {A : Around} {E : Value → Shared → Prop} {s : Shared} {T : String} {r : Addr} {C : Nat → (Nat → Value → Prop) → Prop} {OK : Heap → Prop}
theorem ext_src {R : Result → Shared → Prop} (K : Src prog w T r C OK) (hC : ∀ n P, C n P → n ≤ sizeLine) (hh : A.handled = none) (hok : OK s.heap) (S : Addr) (hSr : S ≠ r) (res : Value) (hS : s.heap.get? S = some { cls := .type "list", data := .seq #[] 0 })
    (hR : ∀ h' d tk acc c n P, (∀ b o, b ≠ S → s.heap.get? b = some o → h'.get? b = some o) → h'.get? S = some { cls := .type "list", dict := none, data := .seq acc c, slots := #[] } → C n P → ItemsOf P acc n → R (.ok (.ret res)) { s with heap := h', drawn := d, toks := tk }) :
    wpAny (model prog w) A.in1 (Builtin.List.listExtendWith (.ref S) (.ref r) res) (fun fin s' => match fin with | .done f => R (.ok f) s' | .again c' => c'.quiet = true ∧ codeAny (model prog w) A c' R s') (fun e s' => R (.error e) s') s := by
  have Sl : S < s.heap.objs.size := Heap.lt_size hS
  unfold Builtin.List.listExtendWith
  refine wpAny_bind (wpAny_typeOf (T := T) (K.ty s hok) ?_)
  have h1 : Builtin.List.listSameRef (.ref S) (.ref r) = false := by simp [Builtin.List.listSameRef, hSr]
  simp only [h1, K.nl, K.nt, Bool.or_false, Bool.false_eq_true, if_false]
  refine wpAny_bind (K.iter A.in1 _ s _ hh hok fun h' d it fp n P St kp le hfp hc W st => ?_)
  have hS1 := kp _ _ hS
  have Sit : S ≠ it := Nat.ne_of_lt (Nat.lt_of_lt_of_le Sl le)
  have nf : S ∉ fp := fun hm => by
    rcases hfp S hm with e | e
    · exact hSr e
    · exact absurd (Nat.lt_of_lt_of_le Sl e.1) (Nat.lt_irrefl _)
  have key : ∀ (h2 : Heap) (c : Nat), St 0 h2 → (∀ b o, b ≠ S → s.heap.get? b = some o → h2.get? b = some o) → h2.get? S = some { cls := .type "list", data := .seq #[] c } → codeAny (model prog w) A (.builtin "list.extend.loop" ⟨[.ref S, .ref it, res], []⟩) R { s with heap := h2, drawn := d } := by
    intro h2 c st2 k2 hS2
    refine codeAny_extend_loopS W.toS (hC n P hc) S nf res n 0 _ #[] c rfl (Nat.zero_le _) st2 hS2 (ItemsOf.nil _) fun s' acc c' mv hS' hacc => ?_
    obtain ⟨h3, g3, d3, tk3, os3⟩ := s'
    have eg : g3 = s.gens := mv.gens
    have ed : d3 = d := mv.drawn
    have eo : os3 = s.os := mv.os
    subst eg; subst ed; subst eo
    refine hR h3 d3 tk3 acc c' n P (fun b o hb e => mv.heap b o (fun hm => ?_) (k2 b o hb e)) hS' hc hacc
    rcases List.mem_cons.mp hm with e' | hm
    · exact hb e'
    · rw [List.mem_singleton.mp hm] at e
      exact absurd (Nat.lt_of_lt_of_le (Heap.lt_size e) le) (Nat.lt_irrefl _)
  refine wpAny_bind (wpAny_holding (K.hint _ _ _ _ (K.keep _ _ hok fun o e => kp _ _ e) ?_))
  refine wpAny_ite_split (fun _ => ?_) (fun _ => wpAny_pure ⟨plainId_quiet PySem.F.plain_extend_loop _, key _ 0 st (fun b o _ e => kp b o e) hS1⟩)
  refine wpAny_bind (wpAny_rule (wpAny_bind ?_))
  show wpAny _ _ (updateSeq S (·.push .none) >>= fun _ => updateSeq S (·.pop)) _ _ _
  refine wpAny_bind (wpAny_updateSeq hS1 rfl ?_)
  have hS2 := Heap.get?_update_self (Obj.mapSeq (·.push Value.none)) hS1 rfl
  refine wpAny_updateSeq (hz := by seq_fits) hS2 rfl ?_
  have hS3 := Heap.get?_update_self (Obj.mapSeq (·.pop)) hS2 rfl
  refine wpAny_pure ⟨plainId_quiet PySem.F.plain_extend_loop _, key _ _ ?_ (fun b o hb e => ?_) hS3⟩
  · refine W.frame 0 _ _ st fun b hb o e => ?_
    have hbS : b ≠ S := fun z => nf (z ▸ hb)
    exact (Heap.get?_update_other _ _ (Ne.symm hbS)).trans ((Heap.get?_update_other _ _ (Ne.symm hbS)).trans e)
  · exact (Heap.get?_update_other _ _ (Ne.symm hb)).trans ((Heap.get?_update_other _ _ (Ne.symm hb)).trans (kp b o e))
theorem coll_src {R : List Value → Shared → Prop} (K : Src prog w T r C OK) (hC : ∀ n P, C n P → n ≤ sizeLine) (hh : A.handled = none) (hok : OK s.heap)
    (h : ∀ h' d tk (acc : Array Value) n P, (∀ b o, s.heap.get? b = some o → h'.get? b = some o) → s.heap.objs.size < h'.objs.size → C n P → ItemsOf P acc n → R acc.toList { s with heap := h', drawn := d, toks := tk }) : wpAny (model prog w) A (collect (.ref r)) R E s := by
  have rl : r < s.heap.objs.size := by
    obtain ⟨o, ho, _⟩ := K.ty s hok
    exact Heap.lt_size ho
  unfold collect
  refine wpAny_bind (wpAny_runValue (codeAny_builtin entry_proto_collect' ?_))
  rw [Around.under_plainId PySem.F.plain_proto_collect _]
  show wpAny _ A.in1 (newList [] >>= fun l => again (.builtin "list.__iadd__" ⟨[l, .ref r], []⟩)) _ _ s
  refine wpAny_bind (wpAny_newObj_type (wpAny_pure ⟨plainId_quiet PySem.F.plain_list_iadd _, codeAny_builtin entry_list_iadd' ?_⟩))
  rw [Around.under_plainId PySem.F.plain_list_iadd _]
  have hS1 : (s.heap.push { cls := .type "list", data := .seq ([] : List Value).toArray }).get? s.heap.objs.size = some { cls := .type "list", data := .seq #[] } := Heap.get?_push_size _ rfl
  show wpAny _ A.in1 (Builtin.List.listExtendWith (.ref s.heap.objs.size) (.ref r) (.ref s.heap.objs.size)) _ _ _
  have key := ext_src (A := A) (s := { s with heap := s.heap.push { cls := .type "list", data := .seq ([] : List Value).toArray } })
    (R := fun (q : Result) (s' : Shared) => ∃ h' d tk acc c n P, q = .ok (.ret (.ref s.heap.objs.size)) ∧ s' = { s with heap := h', drawn := d, toks := tk } ∧ (∀ b o, s.heap.get? b = some o → h'.get? b = some o) ∧ h'.get? s.heap.objs.size = some { cls := .type "list", dict := none, data := .seq acc c, slots := #[] } ∧ C n P ∧ ItemsOf P acc n)
    K hC hh (K.keep _ _ hok fun o e => Heap.get?_push_of_some _ e) s.heap.objs.size (Nat.ne_of_gt rl) (.ref s.heap.objs.size) hS1
    (fun h' d tk acc c n P hk hS' hc hacc => ⟨h', d, tk, acc, c, n, P, rfl, rfl, fun b o e => hk b o (Nat.ne_of_lt (Heap.lt_size e)) (Heap.get?_push_of_some _ e), hS', hc, hacc⟩)
  refine wpAny_mono key (fun fin s' x => ?_) fun e s' x => ?_
  · cases fin with
    | done f =>
      obtain ⟨h', d, tk, acc, c, n, P, e, rfl, hk, hS', hc, hacc⟩ := x
      cases e
      show wpAny _ A (load s.heap.objs.size >>= _) _ _ _
      exact wpAny_bind (wpAny_load hS' (wpAny_pure (h h' d tk acc n P hk (Heap.lt_size hS') hc hacc)))
    | again c₁ =>
      refine ⟨x.1, codeAny_mono x.2 fun q s₂ y => ?_⟩
      obtain ⟨h', d, tk, acc, c, n, P, rfl, rfl, hk, hS', hc, hacc⟩ := y
      show wpAny _ A (load s.heap.objs.size >>= _) _ _ _
      exact wpAny_bind (wpAny_load hS' (wpAny_pure (h h' d tk acc n P hk (Heap.lt_size hS') hc hacc)))
  · obtain ⟨_, _, _, _, _, _, _, e', _⟩ := x
    cases e'
theorem sort_src {Q : Value → Shared → Prop} {ks : List Int} (K : Src prog w T r C OK) (h64 : ks.length < 64) (hC : ∀ n P, C n P → n ≤ sizeLine ∧ ∀ acc : Array Value, ItemsOf P acc n → ∃ ns, IntsAre acc.toList ns ∧ ns.Perm ks) (hh : A.handled = none) (hok : OK s.heap)
    (h : ∀ h' d tk D c (vs : List Value) ns, (∀ b o, s.heap.get? b = some o → h'.get? b = some o) → s.heap.objs.size ≤ D → h'.get? D = some (seqObj "list" vs.toArray c) → IntsAre vs ns → ns.Perm ks → ns.Pairwise (· ≤ ·) → Q (.ref D) { s with heap := h', drawn := d, toks := tk }) :
    wpAny (model prog w) A (call (.builtin "sorted") [.ref r]) Q E s := by
  refine Calls.call_function_entry kind_sorted plain_sorted entry_sorted (args_sorted1 _) ?_
  unfold Builtin.«sorted»
  refine wpAny_bind (m := checkCount "sorted" 1 1 _) (wpAny_pure ?_)
  refine wpAny_bind (coll_src (A := A.in1) K (fun n P c => (hC n P c).1) hh hok fun h' d tk acc n P kp le hc hi => ?_)
  obtain ⟨ns, i1, i2⟩ := (hC n P hc).2 acc hi
  have al : acc.toList.length < 64 := by rw [IntsAre.length i1, i2.length_eq]; exact h64
  refine wpAny_bind (wpAny_newList ?_ (le_size (by omega)))
  have hoL : (h'.push (seqObj "list" acc.toList.toArray 0)).get? h'.objs.size = some (seqObj "list" acc.toList.toArray 0) := Heap.get?_push_size _ rfl
  refine wpAny_bind (wpAny_holding (wpAny_call_entry slot_list_sort ⟨_, hoL, rfl⟩ entry_list_sort (list_sort_tree hoL i1 al fun out ns' a1 a2 a3 => ⟨_, rfl, ?_⟩) (args_list_sort _)))
  obtain ⟨c, hD⟩ := sortedHeap_at (out := out) hoL
  refine wpAny_pure ⟨_, rfl, h _ d tk h'.objs.size c out.toList ns' (fun b o e => ?_) (Nat.le_of_lt le) hD a1 (a2.trans i2) a3⟩
  have bl := Heap.lt_size (kp b o e)
  rw [sortedHeap_old (Nat.ne_of_lt bl) (by rw [size_push']; exact Nat.lt_succ_of_lt bl), Heap.get?_push_of_some _ (kp b o e)]
end
theorem hint_set {prog : Program} {w : World} {A : Around} {E : Value → Shared → Prop} {s : Shared} {r : Addr} {Q : Bool → Shared → Prop} (hT : s.TypeIs (.ref r) "set") (h : Q false s) : wpAny (model prog w) A (Builtin.List.listLengthHint (.ref r)) Q E s := by
  unfold Builtin.List.listLengthHint
  refine wpAny_bind (wpAny_specialOf hT PySem.F.slot_set_len.lookup ?_)
  generalize hid : ("set.__len__" : String) = id0
  wp_delta
  rw [show splitId id0 = some ("set", "__len__") from by subst hid; decide +kernel]
  subst hid
  refine wpAny_bind (wpAny_isInstance (T := "set") (b := true) hT (by rw [isSubtype_type]; kernel_rfl) ?_)
  refine wpAny_ite_split (fun q => absurd q (by decide)) (fun _ => wpAny_ite_split (fun _ => ?_) (fun q => absurd (by decide +kernel) q))
  exact wpAny_bind (wpAny_typeOf hT (wpAny_pure h))
theorem src_set {prog : Program} {w : World} {r : Addr} {ks : List Int} : Src prog w "set" r (fun n P => n = ks.length ∧ ∃ vs ns, vs.length = n ∧ IntsAre vs ns ∧ ns.Perm ks ∧ P = fun i v => vs[i]? = some v) (fun h => SetZ (ledOf w) h r ks) where
  ty := fun s ⟨es, ep, t, ho, _⟩ => ⟨_, ho, rfl⟩
  keep := fun h h' z k => z.keep k
  nl := by decide
  nt := by decide
  hint := fun A E s Q z q => by
    obtain ⟨es, ep, t, ho, _⟩ := z
    exact hint_set ⟨_, ho, rfl⟩ q
  iter := fun A E s Q hh z h => by
    obtain ⟨es, ep, t, ho, Z⟩ := z
    refine iter_z hh ho Z fun h' d it fp vs ns St a1 a2 a3 a4 a5 a6 W st => h h' d it fp vs.length _ St a1 a2 a3 ⟨?_, vs, ns, rfl, a5, a6, rfl⟩ W st
    rw [IntsAre.length a5, a6.length_eq]
theorem vals_intsZ : ∀ {vs : List Value} {ns : List Int}, IntsAre vs ns → Vals (ns.map V.int) vs
  | _, _, .nil => .nil
  | _, _, .cons n t r => .cons ⟨t, rfl⟩ (vals_intsZ r)
theorem ints_vals : ∀ {ns : List Int} {vs : List Value}, Vals (ns.map V.int) vs → IntsAre vs ns
  | [], vs, h => by cases h; exact .nil
  | n :: ns, vs, h => by
    cases h with
    | cons r t =>
      obtain ⟨tk, rfl⟩ := r
      exact .cons n tk (ints_vals t)
def sortI (ks : List Int) : List Int := ks.mergeSort (fun a b => decide (a ≤ b))
theorem sortI_perm (ks : List Int) : (sortI ks).Perm ks := List.mergeSort_perm _ _
theorem sortI_sorted (ks : List Int) : (sortI ks).Pairwise (· ≤ ·) := by
  have := List.pairwise_mergeSort (le := fun (a b : Int) => decide (a ≤ b)) (fun a b c h1 h2 => by simp at h1 h2 ⊢; omega) (fun a b => by simp; omega) ks
  exact this.imp fun h => by simpa using h
theorem sortI_of {ns ks : List Int} (h1 : ns.Perm ks) (h2 : ns.Pairwise (· ≤ ·)) : ns = sortI ks := PySem.W.ksm_same (h1.trans (sortI_perm ks).symm) h2 (sortI_sorted ks)
def SetE (w : World) (a : Addr) (ks : List Int) : HO := .ext (fun h => SetZ (ledOf w) h a ks)
section
variable {X : Cx}
theorem Inv.drawn {pins : List (Addr × Obj)} {σ : St} {H : Hp} {s : Shared} (I : Inv X pins σ H s) (d : Drawn) : Inv X pins σ H { s with drawn := d } :=
  ⟨I.ok, I.os, I.bare, I.base, I.loc, I.cell, I.free, I.freeC, I.pin, I.hok, I.len⟩
def rSetZ (w : World) : List V → Hp → VK → Prop := fun xs H Q => ∃ (p : Addr) (ns : List Int), xs = [.ref p] ∧ H p = some (.lst (ns.map V.int)) ∧ ns.length ≤ 4000 ∧ ∀ a, H a = none → Q (.ref a) (upd H a (SetE w a (ns.foldl step_dedup [])))
theorem call_setL (hc : X.calm = true) : CallR X (.type "set") (rSetZ X.w) := by
  intro pins s σ H xs us Q I r h
  obtain ⟨p, ns, rfl, hp, hl, q⟩ := h
  obtain ⟨u, rfl, ru⟩ := vals1 r
  cases ru
  obtain ⟨hz, its, c, rv, _, ho⟩ := I.lstM hp
  refine call_setZ (I.ok.hd hc) (vs := its) ⟨_, ho, rfl, c, rfl⟩ (ints_vals rv) (by unfold scanBound; omega) fun h' tk z kp => ?_
  refine ⟨.ref s.heap.objs.size, _, I.laid (t' := tk) kp (Nat.le_refl _) ?_, rfl, q _ I.fresh⟩
  show (SetZ (ledOf X.w) h' s.heap.objs.size _) ∧ _
  refine ⟨z, ?_, fun h1 h2 z1 k => z1.keep k⟩
  obtain ⟨es, ep, t, e, _⟩ := z
  exact ⟨_, e⟩
def rSortS (w : World) : List V → Hp → VK → Prop := fun xs H Q => ∃ (a : Addr) (ks : List Int), xs = [.ref a] ∧ H a = some (SetE w a ks) ∧ ks.length < 64 ∧ ∀ l, H l = none → Q (.ref l) (upd H l (.lst ((sortI ks).map V.int)))
theorem laid_sorted {pins : List (Addr × Obj)} {σ : St} {H : Hp} {s : Shared} {Q : VK} {h' : Heap} {d : Drawn} {tk D c : Nat} {vs : List Value} {ns ks : List Int} (I : Inv X pins σ H s) (kp : ∀ b o, s.heap.get? b = some o → h'.get? b = some o) (le : s.heap.objs.size ≤ D)
    (hD : h'.get? D = some (seqObj "list" vs.toArray c)) (hi : IntsAre vs ns) (hp : ns.Perm ks) (ho : ns.Pairwise (· ≤ ·)) (h64 : ks.length < 64) (q : ∀ l, H l = none → Q (.ref l) (upd H l (.lst ((sortI ks).map V.int)))) : EP X pins σ Q (.ref D) { s with heap := h', drawn := d, toks := tk } := by
  have e := sortI_of hp ho
  subst e
  have hz : ((sortI ks).map V.int).length ≤ sizeLine := by rw [List.length_map, hp.length_eq]; exact le_size (by omega)
  exact ⟨.ref D, _, (I.laid (t' := tk) kp le (show ObjOk X.prog X.w _ h' D (.lst ((sortI ks).map V.int)) from ⟨hz, vs, c, vals_intsZ hi, hD⟩)).drawn d, rfl, q D (I.hok.fresh le)⟩
theorem call_sortS (hc : X.calm = true) : CallR X (.builtin "sorted") (rSortS X.w) := by
  intro pins s σ H xs us Q I r h
  obtain ⟨a, ks, rfl, ha, h64, q⟩ := h
  obtain ⟨u, rfl, ru⟩ := vals1 r
  cases ru
  have z : SetZ (ledOf X.w) s.heap a ks := (I.hok a _ ha).1
  refine sort_src (ks := ks) src_set h64 ?_ (I.ok.hd hc) z fun h' d tk D c vs ns kp le hD hi hp ho => laid_sorted I kp le hD hi hp ho h64 q
  rintro n P ⟨rfl, vs, ns, hl, hi, hp, rfl⟩
  refine ⟨le_size (by omega), fun acc it => ⟨ns, ?_, hp⟩⟩
  have : acc.toList = vs := by
    apply List.ext_getElem?
    intro i
    by_cases z : i < acc.size
    · have e := it.2 i _ (Array.getElem?_eq_getElem z)
      rw [Array.getElem?_toList, Array.getElem?_eq_getElem z, e]
    · rw [Array.getElem?_toList, Array.getElem?_eq_none (by omega), List.getElem?_eq_none (by rw [hl, ← it.1]; omega)]
  rw [this]
  exact hi
end
end L2
set_option Elab.async false
set_option linter.all false
set_option maxRecDepth 100000
set_option maxHeartbeats 1000000
namespace L2
open PySem PySem.Spec PyProof.Rows
section
variable {X : Cx}
def rSortL : List V → Hp → VK → Prop := fun xs H Q => ∃ (a : Addr) (ks : List Int), xs = [.ref a] ∧ H a = some (.lst (ks.map V.int)) ∧ ks.length < 64 ∧ ∀ l, H l = none → Q (.ref l) (upd H l (.lst ((sortI ks).map V.int)))
theorem call_sortL : CallR X (.builtin "sorted") rSortL := by
  intro pins s σ H xs us Q I r h
  obtain ⟨a, ks, rfl, ha, h64, q⟩ := h
  obtain ⟨u, rfl, ru⟩ := vals1 r
  cases ru
  obtain ⟨hz, its, c, rv, hl, ho⟩ := I.lstM ha
  rw [List.length_map] at hl
  refine sorted_ints (vs := its) ⟨_, ho, rfl, c, rfl⟩ (ints_vals rv) (by omega) fun out ns' a1 a2 a3 => ?_
  obtain ⟨e, he⟩ := sortedAll_at s.heap its out
  exact laid_sorted (s := s) (d := s.drawn) (tk := s.toks) I (fun b o q => sortedAll_old q) (Nat.le_succ _) (vs := out.toList) (by simpa using he) a1 a2 a3 h64 q
end
end L2
set_option Elab.async false
set_option linter.all false
set_option maxRecDepth 100000
set_option maxHeartbeats 1000000
namespace L2
open PySem PySem.Spec PyProof.Rows
section
variable {X : Cx}
theorem call_setW (w : World) (hc : X.calm = true) (h : X.w = w := by rfl) : CallR X (.type "set") (rSetZ w) := by subst h; exact call_setL hc
theorem call_sortW (w : World) (hc : X.calm = true) (h : X.w = w := by rfl) : CallR X (.builtin "sorted") (rSortS w) := by subst h; exact call_sortS hc
end
theorem dedup_if (ks : List Int) (k : Int) : step_dedup ks k = if k ∈ ks then ks else ks ++ [k] := by
  unfold step_dedup
  by_cases h : k ∈ ks
  · have e : (ks.any fun x => x == k) = true := List.any_eq_true.mpr ⟨k, h, beq_self_eq_true _⟩
    rw [if_pos h, if_pos e]
  · rw [if_neg h, if_neg]
    intro z
    obtain ⟨x, hx, e⟩ := List.any_eq_true.mp z
    rw [beq_iff_eq.mp e] at hx
    exact h hx
def ded (xs : List Int) : List Int := xs.foldl step_dedup []
theorem ded_snoc (xs : List Int) (x : Int) : ded (xs ++ [x]) = if x ∈ ded xs then ded xs else ded xs ++ [x] := by
  unfold ded
  rw [List.foldl_append]
  exact dedup_if _ _
theorem ded_len (xs : List Int) : (ded xs).length ≤ xs.length := by
  have := foldl_dedup_len xs []
  unfold ded
  simpa using this
end L2
set_option Elab.async false
set_option linter.all false
set_option maxRecDepth 100000
set_option maxHeartbeats 1000000
namespace L2
open PySem PySem.Spec PyProof.Rows
def gDe : Int → Int → Int → Int → Int := fun y _ _ x => max y (x + 1)
def dpW (ins : Nat) (ds : List Wd) : List Int := vG gDe 0 (List.replicate ins 0) ds
def Dko (ins : Nat) (ds : List Wd) : Prop := ∀ (k : Nat) (d : Wd), ds[k]? = some d → d.a < ins + k ∧ d.b < ins + k
section
variable {ins : Nat} {ds : List Wd}
theorem dpW_len : (dpW ins ds).length = ins + ds.length := by unfold dpW; rw [vG_len, List.length_replicate]
theorem dpW_nn : ∀ x ∈ dpW ins ds, 0 ≤ x := by
  refine snoc_ind (p := fun ds => ∀ x ∈ dpW ins ds, 0 ≤ x) (fun x hx => ?_) (fun ys y ih x hx => ?_) ds
  · rw [List.eq_of_mem_replicate hx]; exact Int.le_refl _
  · unfold dpW at hx
    rw [vG_snoc] at hx
    rcases List.mem_append.mp hx with z | z
    · exact ih x z
    · rw [List.mem_singleton.mp z]
      unfold vGD gDe
      omega
theorem dp_nn (j : Nat) : 0 ≤ (dpW ins ds).getD j 0 := by
  by_cases h : j < (dpW ins ds).length
  · have e := List.getElem?_eq_getElem h
    rw [getD_of e]
    exact dpW_nn _ (List.mem_of_getElem? e)
  · rw [List.getD_eq_getElem?_getD, List.getElem?_eq_none (by omega)]
    exact Int.le_refl _
theorem dp_in {j : Nat} (h : j < ins) : (dpW ins ds).getD j 0 = 0 := by
  have e : (vG gDe 0 (List.replicate ins 0) ([] : List Wd))[j]? = some 0 := by
    show (List.replicate ins (0 : Int))[j]? = some 0
    rw [List.getElem?_replicate, if_pos h]
  have e2 := vG_pre (g := gDe) (z := 0) (List.replicate ins 0) [] ds e
  rw [List.nil_append] at e2
  exact getD_of e2
theorem dp_at (D : Dko ins ds) {k : Nat} {d : Wd} (hd : ds[k]? = some d) : (dpW ins ds).getD (ins + k) 0 = max ((dpW ins ds).getD d.a 0 + 1) ((dpW ins ds).getD d.b 0 + 1) := by
  have kl := (List.getElem?_eq_some_iff.mp hd).1
  obtain ⟨ha, hb⟩ := D k d hd
  have rl : (List.replicate ins (0 : Int)).length = ins := List.length_replicate
  have e := vG_take (g := gDe) (z := 0) (xs := List.replicate ins 0) hd
  have l1 : (vG gDe 0 (List.replicate ins 0) (ds.take k)).length = ins + k := by rw [vG_len, rl, List.length_take]; omega
  have e1 : (vG gDe 0 (List.replicate ins 0) (ds.take (k + 1)))[ins + k]? = some (vGD gDe 0 (vG gDe 0 (List.replicate ins 0) (ds.take k)) d) := by
    rw [e, List.getElem?_append_right (by omega), l1, Nat.sub_self]
    rfl
  have e2 := vG_pre (g := gDe) (z := 0) (List.replicate ins 0) (ds.take (k + 1)) (ds.drop (k + 1)) e1
  rw [List.take_append_drop] at e2
  unfold dpW
  rw [getD_of e2]
  unfold vGD
  rw [vG_takeD (by omega) (by rw [rl]; exact ha), vG_takeD (by omega) (by rw [rl]; exact hb)]
  have h1 := dp_nn (ins := ins) (ds := ds) d.a
  have h2 := dp_nn (ins := ins) (ds := ds) d.b
  unfold dpW at h1 h2
  unfold gDe at h1 h2 ⊢
  omega
theorem dp_down (D : Dko ins ds) : ∀ (j : Nat) (m : Nat), j < ins + ds.length → (dpW ins ds).getD j 0 = (m : Int) → ∀ i, i ≤ m → ∃ x, x ≤ j ∧ (dpW ins ds).getD x 0 = (i : Int) := by
  intro j
  induction j using Nat.strongRecOn with
  | ind j ih =>
    intro m hj hm i hi
    by_cases z : i = m
    · exact ⟨j, Nat.le_refl _, by rw [hm, z]⟩
    · by_cases q : j < ins
      · rw [dp_in q] at hm
        omega
      · obtain ⟨k, rfl⟩ : ∃ k, j = ins + k := ⟨j - ins, by omega⟩
        have hk : k < ds.length := by omega
        have hd := List.getElem?_eq_getElem hk
        obtain ⟨ha, hb⟩ := D k _ hd
        have e := dp_at D hd
        rw [hm] at e
        have h1 := dp_nn (ins := ins) (ds := ds) (ds[k]).a
        have h2 := dp_nn (ins := ins) (ds := ds) (ds[k]).b
        by_cases y : (dpW ins ds).getD (ds[k]).b 0 ≤ (dpW ins ds).getD (ds[k]).a 0
        · obtain ⟨x, hx, ex⟩ := ih _ ha (m - 1) (by omega) (by omega) i (by omega)
          exact ⟨x, by omega, ex⟩
        · obtain ⟨x, hx, ex⟩ := ih _ hb (m - 1) (by omega) (by omega) i (by omega)
          exact ⟨x, by omega, ex⟩
theorem dp_le (D : Dko ins ds) : ∀ k, k ≤ ds.length → ∀ j, j < ins + k → (dpW ins ds).getD j 0 ≤ k := by
  intro k
  induction k with
  | zero =>
    intro _ j hj
    rw [dp_in (by omega)]
    omega
  | succ k ih =>
    intro hk j hj
    by_cases q : j < ins + k
    · have := ih (by omega) j q
      omega
    · have ej : j = ins + k := by omega
      subst ej
      have hd := List.getElem?_eq_getElem (l := ds) (i := k) (by omega)
      obtain ⟨ha, hb⟩ := D k _ hd
      rw [dp_at D hd]
      have h1 := ih (by omega) _ ha
      have h2 := ih (by omega) _ hb
      omega
end
theorem getD_set {xs : List Int} {i j : Nat} {v : Int} (hi : i < xs.length) : (xs.set i v).getD j 0 = if j = i then v else xs.getD j 0 := by
  rw [List.getD_eq_getElem?_getD, List.getElem?_set]
  by_cases h : i = j
  · subst h
    rw [if_pos rfl, if_pos hi, if_pos rfl]
    rfl
  · rw [if_neg h, if_neg (fun z => h z.symm), List.getD_eq_getElem?_getD]
structure Rx (ins : Nat) (ds : List Wd) (j lo : Nat) (far : List Int) : Prop where
  len : far.length = ins + ds.length
  le : ∀ x, far.getD x 0 ≤ (dpW ins ds).getD x 0
  nn : ∀ x, 0 ≤ far.getD x 0
  ok : ∀ k, k < j → far.getD (ins + k) 0 = (dpW ins ds).getD (ins + k) 0
  cur : lo ≤ j → j < ds.length → far.getD (ins + j) 0 = (dpW ins ds).getD (ins + j) 0
section
variable {ins : Nat} {ds : List Wd} {j lo : Nat} {far : List Int}
theorem rx_zero : Rx ins ds 0 ds.length (List.replicate (ins + ds.length) 0) := by
  have z : ∀ x, (List.replicate (ins + ds.length) (0 : Int)).getD x 0 = 0 := fun x => by
    rw [List.getD_eq_getElem?_getD, List.getElem?_replicate]
    split <;> rfl
  refine ⟨List.length_replicate, fun x => by rw [z]; exact dp_nn x, fun x => by rw [z]; exact Int.le_refl _, fun k h => by omega, fun h1 h2 => by omega⟩
theorem Rx.turn (h : Rx ins ds j 0 far) (hj : j < ds.length + 1) : Rx ins ds (j + 1) ds.length far :=
  ⟨h.len, h.le, h.nn, fun k hk => by
    by_cases q : k < j
    · exact h.ok k q
    · have : k = j := by omega
      subst this
      by_cases y : k < ds.length
      · exact h.cur (Nat.zero_le _) y
      · rw [List.getD_eq_getElem?_getD, List.getElem?_eq_none (by rw [h.len]; omega), List.getD_eq_getElem?_getD, List.getElem?_eq_none (by rw [dpW_len]; omega)], fun h1 h2 => by omega⟩
def rel1 (far : List Int) (x t : Nat) : List Int := if far.getD x 0 < far.getD t 0 + 1 then far.set x (far.getD t 0 + 1) else far
theorem rel1_len {x t : Nat} : (rel1 far x t).length = far.length := by unfold rel1; split <;> simp
theorem rel1_at {x t : Nat} (hx : x < far.length) (y : Nat) : (rel1 far x t).getD y 0 = if y = x then max (far.getD x 0) (far.getD t 0 + 1) else far.getD y 0 := by
  unfold rel1
  split
  · rw [getD_set hx]
    split <;> omega
  · split
    · rename_i h1 h2; subst h2; omega
    · rfl
theorem Rx.deed (D : Dko ins ds) {k : Nat} {d : Wd} (h : Rx ins ds j (k + 1) far) (hd : ds[k]? = some d) : Rx ins ds j k (rel1 (rel1 far (ins + k) d.a) (ins + k) d.b) := by
  have kl := (List.getElem?_eq_some_iff.mp hd).1
  obtain ⟨ha, hb⟩ := D k d hd
  have hx : ins + k < far.length := by rw [h.len]; omega
  have e : ∀ y, (rel1 (rel1 far (ins + k) d.a) (ins + k) d.b).getD y 0 = if y = ins + k then max (max (far.getD (ins + k) 0) (far.getD d.a 0 + 1)) (far.getD d.b 0 + 1) else far.getD y 0 := fun y => by
    have f1 := rel1_at (t := d.a) hx (ins + k)
    have f2 := rel1_at (t := d.a) hx d.b
    have f3 := rel1_at (t := d.a) hx y
    rw [if_pos rfl] at f1
    rw [if_neg (by omega)] at f2
    rw [rel1_at (by rw [rel1_len]; exact hx), f1, f2]
    by_cases z : y = ins + k
    · rw [if_pos z, if_pos z]
    · rw [if_neg z, if_neg z, f3, if_neg z]
  have ed := dp_at D hd
  have la := h.le d.a
  have lb := h.le d.b
  have lk := h.le (ins + k)
  refine ⟨by rw [rel1_len, rel1_len, h.len], fun x => ?_, fun x => ?_, fun i hi => ?_, fun h1 h2 => ?_⟩
  · rw [e]
    split
    · rename_i z; subst z; omega
    · exact h.le x
  · rw [e]
    have := h.nn x
    split
    · rename_i z; subst z; omega
    · exact this
  · rw [e]
    have := h.ok i hi
    split
    · rename_i z
      rw [z] at this ⊢
      omega
    · exact this
  · rw [e]
    by_cases z : j = k
    · subst z
      rw [if_pos rfl, ed]
      have known : ∀ t, t < ins + j → far.getD t 0 = (dpW ins ds).getD t 0 := fun t ht => by
        by_cases q : t < ins
        · have h3 := h.le t
          have h4 := h.nn t
          rw [dp_in q] at h3 ⊢
          omega
        · have := h.ok (t - ins) (by omega)
          rw [show ins + (t - ins) = t by omega] at this
          exact this
      rw [known _ ha, known _ hb]
      omega
    · rw [if_neg (by omega)]
      exact h.cur (by omega) h2
theorem Rx.done (h : Rx ins ds (ds.length + 1) lo far) : far = dpW ins ds := by
  apply List.ext_getElem?
  intro i
  by_cases q : i < ins + ds.length
  · have e1 := List.getElem?_eq_getElem (l := far) (i := i) (by rw [h.len]; exact q)
    have e2 := List.getElem?_eq_getElem (l := dpW ins ds) (i := i) (by rw [dpW_len]; exact q)
    rw [e1, e2]
    congr 1
    rw [← getD_of (d := 0) e1, ← getD_of (d := 0) e2]
    by_cases z : i < ins
    · have h3 := h.le i
      have h4 := h.nn i
      rw [dp_in z] at h3 ⊢
      omega
    · have := h.ok (i - ins) (by omega)
      rw [show ins + (i - ins) = i by omega] at this
      exact this
  · rw [List.getElem?_eq_none (by rw [h.len]; omega), List.getElem?_eq_none (by rw [dpW_len]; omega)]
end
def layR (dp : List Int) (m : Nat) (k : Nat) : List Int := ((List.range m).filter fun i => decide (dp.getD i 0 = (k : Int))).map fun (i : Nat) => (i : Int)
def layRs (dp : List Int) (n m : Nat) : List (List Int) := (List.range n).map (layR dp m)
theorem layR_succ (dp : List Int) (m k : Nat) : layR dp (m + 1) k = layR dp m k ++ (if dp.getD m 0 = (k : Int) then [(m : Int)] else []) := by
  unfold layR
  rw [List.range_succ, List.filter_append, List.map_append]
  congr 1
  by_cases h : dp.getD m 0 = (k : Int)
  · rw [if_pos h, List.filter_cons_of_pos (by simpa using h)]
    rfl
  · rw [if_neg h, List.filter_cons_of_neg (by simpa using h)]
    rfl
theorem layRs_set {dp : List Int} {n m k : Nat} (hk : dp.getD m 0 = (k : Int)) (hn : k < n) : (layRs dp n m).set k (layR dp m k ++ [(m : Int)]) = layRs dp n (m + 1) := by
  apply List.ext_getElem?
  intro i
  unfold layRs
  rw [List.getElem?_set]
  by_cases z : k = i
  · subst z
    rw [if_pos rfl, if_pos (by rw [List.length_map, List.length_range]; exact hn), List.getElem?_map, List.getElem?_range hn]
    show _ = some (layR dp (m + 1) k)
    rw [layR_succ, if_pos hk]
  · rw [if_neg z, List.getElem?_map, List.getElem?_map]
    cases h : (List.range n)[i]? with
    | none => rfl
    | some y =>
      have hy : y = i := by
        obtain ⟨h1, h2⟩ := List.getElem?_eq_some_iff.mp h
        rw [List.getElem_range] at h2
        exact h2.symm
      subst hy
      show some (layR dp m y) = some (layR dp (m + 1) y)
      rw [layR_succ, if_neg (by rw [hk]; omega), List.append_nil]
theorem layR_rise (dp : List Int) (m k : Nat) : (layR dp m k).Pairwise (· < ·) := by
  unfold layR
  rw [List.pairwise_map]
  refine List.Pairwise.imp ?_ (List.Pairwise.filter _ List.pairwise_lt_range)
  intro a b h
  omega
theorem mem_layR {dp : List Int} {m k : Nat} {x : Int} : x ∈ layR dp m k ↔ ∃ i : Nat, x = i ∧ i < m ∧ dp.getD i 0 = (k : Int) := by
  unfold layR
  rw [List.mem_map]
  constructor
  · rintro ⟨i, hi, rfl⟩
    obtain ⟨h1, h2⟩ := List.mem_filter.mp hi
    exact ⟨i, rfl, List.mem_range.mp h1, of_decide_eq_true h2⟩
  · rintro ⟨i, rfl, h1, h2⟩
    exact ⟨i, List.mem_filter.mpr ⟨List.mem_range.mpr h1, decide_eq_true h2⟩, rfl⟩
theorem ded_nodup : ∀ {xs : List Int}, xs.Nodup → ded xs = xs := fun {xs} => by
  refine snoc_ind (p := fun xs => xs.Nodup → ded xs = xs) (fun _ => rfl) (fun ys y ih h => ?_) xs
  rw [List.nodup_append] at h
  rw [ded_snoc, ih h.1, if_neg (fun z => h.2.2 y z y (by simp) rfl)]
theorem sorted_rise {xs : List Int} (h : xs.Pairwise (· < ·)) : sortI (ded xs) = xs := by
  have nd : xs.Nodup := h.imp fun q => Int.ne_of_lt q
  rw [ded_nodup nd]
  exact (sortI_of (List.Perm.refl _) (h.imp fun q => Int.le_of_lt q)).symm
theorem lay_perm {dp : List Int} {m : Nat} : ∀ (k : Nat) (seen : List Int), seen.Perm (((List.range m).filter fun i => decide (dp.getD i 0 < (k : Int))).map fun (i : Nat) => (i : Int)) → (seen ++ layR dp m k).Perm (((List.range m).filter fun i => decide (dp.getD i 0 < ((k + 1 : Nat) : Int))).map fun (i : Nat) => (i : Int)) := by
  intro k seen h
  refine (h.append_right _).trans ?_
  unfold layR
  rw [← List.map_append]
  refine List.Perm.map _ ?_
  have e := List.filter_append_perm (fun i => decide (dp.getD i 0 < (k : Int))) ((List.range m).filter fun i => decide (dp.getD i 0 < ((k + 1 : Nat) : Int)))
  rw [List.filter_filter, List.filter_filter] at e
  refine List.Perm.trans (List.Perm.of_eq ?_) e
  congr 1
  · apply List.filter_congr
    intro x _
    by_cases q : dp.getD x 0 < (k : Int)
    · rw [decide_eq_true q, decide_eq_true (by omega)]; rfl
    · rw [decide_eq_false q]; rfl
  · apply List.filter_congr
    intro x _
    by_cases q : dp.getD x 0 = (k : Int)
    · rw [decide_eq_true q, decide_eq_false (by omega), decide_eq_true (by omega)]; rfl
    · rw [decide_eq_false q]
      by_cases y : dp.getD x 0 < (k : Int)
      · rw [decide_eq_true y]; rfl
      · rw [decide_eq_false y, decide_eq_false (by omega)]; rfl
end L2
set_option Elab.async false
set_option linter.all false
set_option maxRecDepth 100000
set_option maxHeartbeats 1000000
namespace L2
open PySem PySem.Spec PyProof.Rows
structure LDp (H : Hp) (l : Addr) (ps : List Addr) (rows : List (List Int)) : Prop where
  lst : H l = some (.lst (ps.map V.ref))
  len : ps.length = rows.length
  nd : ps.Nodup
  nl : l ∉ ps
  at_ : ∀ (k : Nat) (p : Addr) (r : List Int), ps[k]? = some p → rows[k]? = some r → H p = some (.lst (r.map V.int))
theorem LDp.same {H H' : Hp} {l : Addr} {ps : List Addr} {rows : List (List Int)} (h : LDp H l ps rows) (s : Same H H') : LDp H' l ps rows := ⟨s _ _ h.lst, h.len, h.nd, h.nl, fun k p r e1 e2 => s _ _ (h.at_ k p r e1 e2)⟩
theorem LDp.ll {H : Hp} {l : Addr} {ps : List Addr} {rows : List (List Int)} (h : LDp H l ps rows) : LL H l rows := by
  refine ⟨_, h.lst, by rw [List.length_map]; exact h.len, fun i c hc => ?_⟩
  have il := (List.getElem?_eq_some_iff.mp hc).1
  have e := List.getElem?_eq_getElem (l := ps) (i := i) (by rw [h.len]; exact il)
  refine ⟨ps[i]'(by rw [h.len]; exact il), by rw [List.getElem?_map, e]; rfl, fun z => h.nl (z ▸ List.mem_of_getElem? e), h.at_ i _ c e hc⟩
theorem LDp.app {H : Hp} {l p : Addr} {ps : List Addr} {rows : List (List Int)} {k : Nat} {r : List Int} {x : Int} (h : LDp H l ps rows) (hp : ps[k]? = some p) (hr : rows[k]? = some r) : LDp (upd H p (.lst (r.map V.int ++ [.int x]))) l ps (rows.set k (r ++ [x])) := by
  have pl : l ≠ p := fun z => h.nl (z ▸ List.mem_of_getElem? hp)
  refine ⟨by rw [upd_ne pl]; exact h.lst, by rw [List.length_set]; exact h.len, h.nd, h.nl, fun i q s e1 e2 => ?_⟩
  rw [List.getElem?_set] at e2
  by_cases z : k = i
  · subst z
    rw [if_pos rfl, if_pos (List.getElem?_eq_some_iff.mp hr).1] at e2
    cases e2
    rw [hp] at e1
    cases e1
    rw [upd_same, List.map_append]
    rfl
  · rw [if_neg z] at e2
    have qp : q ≠ p := fun e => by
      subst e
      obtain ⟨a1, a2⟩ := List.getElem?_eq_some_iff.mp hp
      obtain ⟨b1, b2⟩ := List.getElem?_eq_some_iff.mp e1
      exact z ((List.getElem_inj h.nd).mp (a2.trans b2.symm))
    rw [upd_ne qp]
    exact h.at_ i q s e1 e2
section
variable {K : PySem.W.Frag} {σ : St} {H : Hp} {Q : VK} {cs : List Nat} {te : TE}
theorem comp_rowsD {n : Nat} (hz : n ≤ 1000) (row : Nat → List Int)
    (hb : ∀ (i : Nat) H' (R : VK), i < n → Same H H' → (∀ r H5, H' r = none → Same H' H5 → H5 r = some (.lst ((row i).map V.int)) → R (.ref r) H5) → te (some (.int (0 + (i : Int))) :: capV cs σ) H' R)
    (hd : ∀ acc ps H', H acc = none → (∀ p ∈ ps, H p = none) → Same H H' → LDp H' acc ps ((List.range n).map row) → Q (.ref acc) H') : CompIt (Itr 0 n) 1 cs (gName 0) tYes te σ H Q := by
  refine comp_any n (fun acc i ws H' => ∃ ps : List Addr, ws = ps.map V.ref ∧ Same H H' ∧ H acc = none ∧ (∀ p ∈ ps, H p = none) ∧ LDp H' acc ps ((List.range i).map row)) (le_size hz) ?_ ?_ ?_ ?_ ?_ ?_
  · rintro acc i ws H' hi _
    exact hi
  · rintro acc ws H' _
    exact Nat.le_refl _
  · intro acc ha
    exact ⟨[], rfl, same_new ha _, ha, (fun p hp => by cases hp), ⟨upd_same, rfl, List.nodup_nil, by simp, fun k p r e => by simp at e⟩⟩
  · rintro acc i ws H' ⟨ps, rfl, s, _, _, h⟩
    exact ⟨h.lst, by rw [List.length_map, h.len, List.length_map, List.length_range]; exact Nat.le_refl _⟩
  · rintro acc i ws H' ts x H2 N hn hi ⟨ps, rfl, s, hn', hp, h⟩ ⟨rfl, rfl⟩ hts hN
    obtain ⟨t0, rfl⟩ : ∃ t0, ts = [t0] := by
      match ts, hts with
      | [a], _ => exact ⟨a, rfl⟩
    rw [w_gName, w_yes, if_pos rfl]
    refine hb i _ _ hi s fun r H5 nr s5 h5 => ?_
    have ra : r ≠ acc := (ne_of_none h.lst nr).symm
    have rps : ∀ p ∈ ps, p ≠ r := fun p hp => by
      obtain ⟨k, hk⟩ := List.getElem?_of_mem hp
      have kl := (List.getElem?_eq_some_iff.mp hk).1
      exact ne_of_none (h.at_ k p _ hk (List.getElem?_eq_getElem (by rw [← h.len]; exact kl))) nr
    refine ⟨s5 _ _ h.lst, hN _ [_] _ rfl ⟨ps ++ [r], by simp, same_upd hn (s.trans s5), hn', fun p hp' => ?_, ?_⟩⟩
    · rcases List.mem_append.mp hp' with z | z
      · exact hp p z
      · rw [List.mem_singleton.mp z]; exact s.free nr
    · refine ⟨by rw [upd_same]; simp, by simp [h.len], ?_, ?_, fun k p q e1 e2 => ?_⟩
      · rw [List.nodup_append]
        exact ⟨h.nd, by simp, fun a ha b hb => by rw [List.mem_singleton.mp hb]; exact rps a ha⟩
      · intro z
        rcases List.mem_append.mp z with z | z
        · exact h.nl z
        · exact ra (List.mem_singleton.mp z).symm
      · rw [List.range_succ, List.map_append] at e2
        have il : ps.length = i := by rw [h.len, List.length_map, List.length_range]
        have ml : ((List.range i).map row).length = i := by rw [List.length_map, List.length_range]
        by_cases z : k < i
        · rw [List.getElem?_append_left (by omega)] at e1 e2
          have pa : p ≠ acc := fun e => h.nl (e ▸ List.mem_of_getElem? e1)
          rw [upd_ne pa]
          exact s5 _ _ (h.at_ k p q e1 e2)
        · have kl := (List.getElem?_eq_some_iff.mp e1).1
          rw [List.length_append, il] at kl
          have ek : k = i := by simp at kl; omega
          subst ek
          rw [List.getElem?_append_right (by omega), il, Nat.sub_self] at e1
          rw [List.getElem?_append_right (by omega), ml, Nat.sub_self] at e2
          cases e1
          cases e2
          rw [upd_ne ra]
          exact h5
  · rintro acc ws H' hn ⟨ps, rfl, s, _, hp, h⟩
    exact hd acc ps H' hn hp s h
end
def spDepths : Sp := fun vs H Q _ => ∃ (x dl gl : Addr) (ins : Nat) (us : List V) (ds : List Wd) (os : List V) (gs : List Go), vs = [.ref x] ∧ Wb H x dl gl ins us ds os gs ∧ Dko ins ds ∧ ds.length ≤ 60 ∧ ins ≤ 12 ∧
  ∀ r H', H r = none → Same H H' → H' r = some (.lst ((dpW ins ds).map V.int)) → Q (.ref r) H'
def goD (dp : List Int) (gs : List Go) : List Int := (gs.filter fun g => decide (g.sg ≠ 0)).map fun g => dp.getD g.th 0
def spDepth : Sp := fun vs H Q _ => ∃ (x dl gl : Addr) (ins : Nat) (us : List V) (ds : List Wd) (os : List V) (gs : List Go), vs = [.ref x] ∧ Wb H x dl gl ins us ds os gs ∧ Dko ins ds ∧ ds.length ≤ 60 ∧ ins ≤ 12 ∧ gs.length ≤ 12 ∧ (∀ g ∈ gs, g.th < ins + ds.length) ∧
  ∀ H', Same H H' → Q (.int (mz (goD (dpW ins ds) gs))) H'
def nLay (dp : List Int) : Nat := (mz dp).toNat + 1
def spLayers : Sp := fun vs H Q _ => ∃ (x dl gl : Addr) (ins : Nat) (us : List V) (ds : List Wd) (os : List V) (gs : List Go), vs = [.ref x] ∧ Wb H x dl gl ins us ds os gs ∧ Dko ins ds ∧ ds.length ≤ 60 ∧ 1 ≤ ins ∧ ins ≤ 12 ∧
  ∀ r ps H', H r = none → (∀ p ∈ ps, H p = none) → Same H H' → LDp H' r ps (layRs (dpW ins ds) (nLay (dpW ins ds)) (ins + ds.length)) → Q (.ref r) H'
def spAreL : Sp := fun vs H Q _ => ∃ (f l : Addr) (ins : Nat) (ds : List Wd), vs = [.ref f, .ref l] ∧ LL H f (layRs (dpW ins ds) (nLay (dpW ins ds)) (ins + ds.length)) ∧ H l = some (.lst ((dpW ins ds).map V.int)) ∧ Dko ins ds ∧ 1 ≤ ins ∧ ins + ds.length < 64 ∧ ∀ H', Same H H' → Q (.bl true) H'
end L2
set_option Elab.async false
set_option linter.all false
set_option maxRecDepth 100000
set_option maxHeartbeats 1000000
namespace L2
open PySem PySem.Spec PyProof.Rows
section
variable {K : PySem.W.Frag} {σ : St} {H : Hp} {Q : VK} {cs : List Nat} {tt : TT} {te : TE}
theorem comp_ofF {α : Type} {l : Addr} {vs : List V} {xs : List α} (hl : H l = some (.lst vs)) (hlen : vs.length = xs.length) (hz : xs.length ≤ 1000) (f : α → Option Int)
    (hb : ∀ (k : Nat) v x H' (R : Option V → Hp → Prop), vs[k]? = some v → xs[k]? = some x → Same H H' → (∀ H5, Same H' H5 → R ((f x).map V.int) H5) → tt (some v :: capV cs σ) H' fun b H4 => if b = true then te (some v :: capV cs σ) H4 fun y H5 => R (some y) H5 else R none H4)
    (hd : ∀ acc H', H acc = none → Same H H' → H' acc = some (.lst ((xs.filterMap f).map V.int)) → Q (.ref acc) H') : CompIt (Itl K l) 1 cs (gName 0) tt te σ H Q := by
  refine comp_any xs.length (fun acc i ws H' => Same H H' ∧ H acc = none ∧ H' acc = some (.lst ws) ∧ ws = ((xs.take i).filterMap f).map V.int) (le_size hz) ?_ ?_ ?_ ?_ ?_ ?_
  · rintro acc i ws H' hi ⟨s, _⟩
    exact ⟨vs, vs[i]'(by omega), SqL.of (s _ _ hl), List.getElem?_eq_getElem _⟩
  · rintro acc ws H' ⟨s, _⟩
    exact ⟨vs, SqL.of (s _ _ hl), by omega⟩
  · intro acc ha
    exact ⟨same_new ha _, ha, upd_same, rfl⟩
  · rintro acc i ws H' ⟨s, _, ha, hw⟩
    refine ⟨ha, ?_⟩
    rw [hw, List.length_map]
    exact Nat.le_trans (List.length_filterMap_le _ _) (by rw [List.length_take]; omega)
  · rintro acc i ws H' ts v H2 N hn hi ⟨s, hn', ha, hw⟩ ⟨rfl, hx0⟩ hts hN
    have hx := hx0 vs (SqL.of (s _ _ hl))
    have e1 : xs[i]? = some xs[i] := List.getElem?_eq_getElem hi
    generalize xs[i] = x at e1
    obtain ⟨t0, rfl⟩ : ∃ t0, ts = [t0] := by
      match ts, hts with
      | [a], _ => exact ⟨a, rfl⟩
    rw [w_gName]
    have tk : xs.take (i + 1) = xs.take i ++ [x] := by rw [List.take_add_one, e1]; rfl
    refine hb i v x H2 (fun o H5 => match o with | some y => H5 acc = some (.lst ws) ∧ N (ws ++ [y]) (some v :: capV cs σ) (upd H5 acc (.lst (ws ++ [y]))) | none => N ws (some v :: capV cs σ) H5) hx e1 s fun H5 s5 => ?_
    cases hf : f x with
    | none =>
      refine hN _ [some v] _ rfl ⟨s.trans s5, hn', s5 _ _ ha, ?_⟩
      rw [hw, tk, List.filterMap_append, List.filterMap_cons, hf]
      simp
    | some y =>
      refine ⟨s5 _ _ ha, hN _ [some v] _ rfl ⟨same_upd hn (s.trans s5), hn', upd_same, ?_⟩⟩
      rw [hw, tk, List.filterMap_append, List.map_append, List.filterMap_cons, hf]
      rfl
  · rintro acc ws H' hn ⟨s, _, ha, hw⟩
    refine hd acc H' hn s ?_
    rw [ha, hw, List.take_of_length_le (Nat.le_refl _)]
end
theorem goD_map (dp : List Int) (gs : List Go) : gs.filterMap (fun g => if g.sg ≠ 0 then some (dp.getD g.th 0) else none) = goD dp gs := by
  unfold goD
  induction gs with
  | nil => rfl
  | cons g r ih =>
    rw [List.filterMap_cons, ih]
    by_cases z : g.sg ≠ 0
    · rw [if_pos z, List.filter_cons_of_pos (by simpa using z)]
      rfl
    · rw [if_neg z, List.filter_cons_of_neg (by simpa using z)]
theorem mz_zero (xs : List Int) : mz (0 :: xs) = mz xs := by
  have := mz_nonneg xs
  show (if mz xs < 0 then 0 else mz xs) = mz xs
  rw [if_neg (by omega)]
theorem eq_LL {K : PySem.W.Frag} {H : Hp} {l l' : Addr} {rs : List (List Int)} {Q : VK} (h : LL H l rs) (h' : LL H l' rs) (q : Q (.bl true) H) : rEqD K (.ref l) (.ref l') H Q := by
  obtain ⟨vs, a, b⟩ := h.hrs
  obtain ⟨vs', a', b'⟩ := h'.hrs
  refine ⟨l, _, _, rfl, lr_is a b, lr_is a' b', ?_, by rw [deq_refl _ (lr_is (K := K) a b)]; exact q⟩
  unfold lrDt
  have := depL_lr rs
  rw [dep]
  omega
def chD (k : Nat) : Wd := ⟨"sum", k, 0, k, 1⟩
def chDs : List Wd := (List.range 60).map chD
theorem chDs_at {k : Nat} {d : Wd} (h : chDs[k]? = some d) : d = chD k ∧ k < 60 := by
  unfold chDs at h
  rw [List.getElem?_map] at h
  cases hr : (List.range 60)[k]? with
  | none => rw [hr] at h; cases h
  | some y =>
    rw [hr] at h
    cases h
    obtain ⟨h1, h2⟩ := List.getElem?_eq_some_iff.mp hr
    rw [List.getElem_range] at h2
    rw [List.length_range] at h1
    subst h2
    exact ⟨rfl, h1⟩
theorem chDs_ok : Dko 1 chDs := fun k d h => by
  obtain ⟨rfl, _⟩ := chDs_at h
  exact ⟨by show k < 1 + k; omega, by show k < 1 + k; omega⟩
theorem ch_dp : dpW 1 chDs = (List.range 61).map fun (i : Nat) => (i : Int) := by decide +kernel
theorem ch_lay : layRs (dpW 1 chDs) (nLay (dpW 1 chDs)) (1 + chDs.length) = (List.range 61).map fun (i : Nat) => [(i : Int)] := by decide +kernel
theorem ch_go : mz (goD (dpW 1 chDs) [⟨59, 0, 1⟩]) = 59 := by decide +kernel
end L2
set_option Elab.async false
set_option linter.all false
set_option maxRecDepth 100000
set_option maxHeartbeats 1000000
namespace L2
open PySem PySem.Spec PyProof.Rows
section
variable {X : Cx}
end
end L2
end

section
set_option Elab.async false
set_option linter.all false
set_option maxRecDepth 100000
set_option maxHeartbeats 4000000
namespace Law
open PySem L2
def top (i : Nat) : Stmt := PySem.Challenge.pw_shiftsums_k16_depths_and_layers.main.body.getD i (.Pass ⟨0, 0, 0, 0⟩)
abbrev s_second_sign : Stmt := top 1
theorem sc_second_sign : FnScope ["deed"] ["deed"] (defScope s_second_sign) := ⟨rfl, rfl, rfl, by decide +kernel, rfl, by decide +kernel, by decide +kernel⟩
abbrev s_deed_arrows : Stmt := top 2
theorem sc_deed_arrows : FnScope ["web", "told", "place", "deed", "thing"] ["web"] (defScope s_deed_arrows) := ⟨rfl, rfl, rfl, by decide +kernel, rfl, by decide +kernel, by decide +kernel⟩
abbrev s_thing_count : Stmt := top 3
theorem sc_thing_count : FnScope ["web"] ["web"] (defScope s_thing_count) := ⟨rfl, rfl, rfl, by decide +kernel, rfl, by decide +kernel, by decide +kernel⟩
abbrev s_depths : Stmt := top 5
theorem sc_depths : FnScope ["web", "told", "start", "goal", "shift", "sign"] ["web"] (defScope s_depths) := ⟨rfl, rfl, rfl, by decide +kernel, rfl, by decide +kernel, by decide +kernel⟩
abbrev s_depth : Stmt := top 6
theorem sc_depth : FnScope ["web", "told"] ["web"] (defScope s_depth) := ⟨rfl, rfl, rfl, by decide +kernel, rfl, by decide +kernel, by decide +kernel⟩
abbrev s_layers : Stmt := top 7
theorem sc_layers : FnScope ["web", "deep", "told", "thing", "layer"] ["web"] (defScope s_layers) := ⟨rfl, rfl, rfl, by decide +kernel, rfl, by decide +kernel, by decide +kernel⟩
abbrev s_l_feed : Stmt := top 9
theorem sc_l_feed : FnScope ["_law_script", "_law_k", "_law_cell", "_law_great"] ["_law_script", "_law_k"] (defScope s_l_feed) := ⟨rfl, rfl, rfl, by decide +kernel, rfl, by decide +kernel, by decide +kernel⟩
abbrev s_l_take : Stmt := top 10
theorem sc_l_take : FnScope ["_law_feed_here", "_law_many", "_law_high", "_law_digit", "_law_step", "_law_mixed"] ["_law_feed_here", "_law_many"] (defScope s_l_take) := ⟨rfl, rfl, rfl, by decide +kernel, rfl, by decide +kernel, by decide +kernel⟩
abbrev s_l_low : Stmt := top 11
theorem sc_l_low : FnScope ["_law_row", "_law_k"] ["_law_row"] (defScope s_l_low) := ⟨rfl, rfl, rfl, by decide +kernel, rfl, by decide +kernel, by decide +kernel⟩
abbrev s_l_moved : Stmt := top 12
theorem sc_l_moved : FnScope ["_law_row", "_law_shift_here"] ["_law_row", "_law_shift_here"] (defScope s_l_moved) := ⟨rfl, rfl, rfl, by decide +kernel, rfl, by decide +kernel, by decide +kernel⟩
abbrev s_l_shift : Stmt := top 13
theorem sc_l_shift : FnScope ["_law_feed_here", "_law_row", "_law_way"] ["_law_feed_here", "_law_row"] (defScope s_l_shift) := ⟨rfl, rfl, rfl, by decide +kernel, rfl, by decide +kernel, by decide +kernel⟩
abbrev s_l_picked : Stmt := top 14
theorem sc_l_picked : FnScope ["_law_feed_here", "_law_many"] ["_law_feed_here", "_law_many"] (defScope s_l_picked) := ⟨rfl, rfl, rfl, by decide +kernel, rfl, by decide +kernel, by decide +kernel⟩
abbrev s_l_web : Stmt := top 15
theorem sc_l_web : FnScope ["_law_feed_here", "_law_most", "_law_ins", "_law_rows", "_law_deeds", "_law_k", "_law_a", "_law_b", "_law_s", "_law_t", "_law_sign", "_law_pairs", "_law_outs", "_law_thing", "_law_out"] ["_law_feed_here", "_law_most"] (defScope s_l_web) := ⟨rfl, rfl, rfl, by decide +kernel, rfl, by decide +kernel, by decide +kernel⟩
abbrev s_l_reached : Stmt := top 16
theorem sc_l_reached : FnScope ["_law_web_here", "_law_ins", "_law_deeds", "_law_outs", "_law_far", "_law_turn", "_law_k", "_law_word", "_law_a", "_law_s", "_law_b", "_law_t", "_law_thing"] ["_law_web_here"] (defScope s_l_reached) := ⟨rfl, rfl, rfl, by decide +kernel, rfl, by decide +kernel, by decide +kernel⟩
abbrev s_l_whole : Stmt := top 17
theorem sc_l_whole : FnScope ["_law_thing"] ["_law_thing"] (defScope s_l_whole) := ⟨rfl, rfl, rfl, by decide +kernel, rfl, by decide +kernel, by decide +kernel⟩
abbrev s_l_are_layers : Stmt := top 18
theorem sc_l_are_layers : FnScope ["_law_found", "_law_far", "_law_seen", "_law_k", "_law_row"] ["_law_found", "_law_far"] (defScope s_l_are_layers) := ⟨rfl, rfl, rfl, by decide +kernel, rfl, by decide +kernel, by decide +kernel⟩
abbrev s_law : Stmt := top 19
theorem sc_law : FnScope ["_law_script", "_law_k", "_law_web_here", "_law_rows", "_law_ins", "_law_deeds", "_law_outs", "_law_handed", "_law_far", "_law_turn", "_law_found", "_law_due", "_law_told", "_law_chain"] ["_law_script"] (defScope s_law) := ⟨rfl, rfl, rfl, by decide +kernel, rfl, by decide +kernel, by decide +kernel⟩
structure Bl (mg : Str → Option Value) : Prop where
  abs : mg "abs" = none
  all : mg "all" = none
  any : mg "any" = none
  bool : mg "bool" = none
  enumerate : mg "enumerate" = none
  int : mg "int" = none
  isinstance : mg "isinstance" = none
  len : mg "len" = none
  list : mg "list" = none
  max : mg "max" = none
  min : mg "min" = none
  range : mg "range" = none
  «set» : mg "set" = none
  sorted : mg "sorted" = none
  zip : mg "zip" = none
structure Txt (K : PySem.W.Frag) (mg : Str → Option Value) : Prop where
  bl : Bl mg
  t_second_sign : ∃ (f : Addr) (fd : FuncData), Fun K "second_sign" "second_sign" s_second_sign f fd ∧ mg "second_sign" = some (.ref f) ∧ Binds K fd ["deed"] []
  t_deed_arrows : ∃ (f : Addr) (fd : FuncData), Fun K "deed_arrows" "deed_arrows" s_deed_arrows f fd ∧ mg "deed_arrows" = some (.ref f) ∧ Binds K fd ["web"] []
  t_thing_count : ∃ (f : Addr) (fd : FuncData), Fun K "thing_count" "thing_count" s_thing_count f fd ∧ mg "thing_count" = some (.ref f) ∧ Binds K fd ["web"] []
  t_depths : ∃ (f : Addr) (fd : FuncData), Fun K "depths" "depths" s_depths f fd ∧ mg "depths" = some (.ref f) ∧ Binds K fd ["web"] []
  t_depth : ∃ (f : Addr) (fd : FuncData), Fun K "depth" "depth" s_depth f fd ∧ mg "depth" = some (.ref f) ∧ Binds K fd ["web"] []
  t_layers : ∃ (f : Addr) (fd : FuncData), Fun K "layers" "layers" s_layers f fd ∧ mg "layers" = some (.ref f) ∧ Binds K fd ["web"] []
  t_l_feed : ∃ (f : Addr) (fd : FuncData), Fun K "_law_feed" "_law_feed" s_l_feed f fd ∧ mg "_law_feed" = some (.ref f) ∧ Binds K fd ["_law_script", "_law_k"] []
  t_l_take : ∃ (f : Addr) (fd : FuncData), Fun K "_law_take" "_law_take" s_l_take f fd ∧ mg "_law_take" = some (.ref f) ∧ Binds K fd ["_law_feed_here", "_law_many"] []
  t_l_low : ∃ (f : Addr) (fd : FuncData), Fun K "_law_low" "_law_low" s_l_low f fd ∧ mg "_law_low" = some (.ref f) ∧ Binds K fd ["_law_row"] []
  t_l_moved : ∃ (f : Addr) (fd : FuncData), Fun K "_law_moved" "_law_moved" s_l_moved f fd ∧ mg "_law_moved" = some (.ref f) ∧ Binds K fd ["_law_row", "_law_shift_here"] []
  t_l_shift : ∃ (f : Addr) (fd : FuncData), Fun K "_law_shift" "_law_shift" s_l_shift f fd ∧ mg "_law_shift" = some (.ref f) ∧ Binds K fd ["_law_feed_here", "_law_row"] []
  t_l_picked : ∃ (f : Addr) (fd : FuncData), Fun K "_law_picked" "_law_picked" s_l_picked f fd ∧ mg "_law_picked" = some (.ref f) ∧ Binds K fd ["_law_feed_here", "_law_many"] []
  t_l_web : ∃ (f : Addr) (fd : FuncData), Fun K "_law_web" "_law_web" s_l_web f fd ∧ mg "_law_web" = some (.ref f) ∧ Binds K fd ["_law_feed_here", "_law_most"] []
  t_l_reached : ∃ (f : Addr) (fd : FuncData), Fun K "_law_reached" "_law_reached" s_l_reached f fd ∧ mg "_law_reached" = some (.ref f) ∧ Binds K fd ["_law_web_here"] []
  t_l_whole : ∃ (f : Addr) (fd : FuncData), Fun K "_law_whole" "_law_whole" s_l_whole f fd ∧ mg "_law_whole" = some (.ref f) ∧ Binds K fd ["_law_thing"] []
  t_l_are_layers : ∃ (f : Addr) (fd : FuncData), Fun K "_law_are_layers" "_law_are_layers" s_l_are_layers f fd ∧ mg "_law_are_layers" = some (.ref f) ∧ Binds K fd ["_law_found", "_law_far"] []
  t_law : ∃ (f : Addr) (fd : FuncData), Fun K "law" "law" s_law f fd ∧ mg "law" = some (.ref f) ∧ Binds K fd ["_law_script"] []
local macro_rules | `(tactic| walk_at "WP") => `(tactic| (first | (dsimp only [w_gLst, w_forE, w_compE, w_compZ, w_for3, w_gTupK, w_ixT, w_eqS, w_aug, w_ipI, w_dnK, w_maxD, w_sl, w_noPart, w_part, w_slL, w_var, w_C, w_op, w_un, w_rI, w_rI0, w_rU, w_eqI, w_neI, w_eqB, w_neB, w_seq, w_next, w_break, w_cont, w_ifS, w_ret, w_retN, w_drop, w_asg, w_gName, w_gSub, w_test, w_B, w_and, w_or, w_not, w_andV, w_orV, w_notV, w_if, w_call, w_nil, w_cons, w_CB, w_lst, w_tup, w_isN, w_notN, w_chain, w_for1, w_for2b, w_On2, w_forL, w_forT, w_forV, w_compL, w_compT, w_comp1, w_comp2b, w_yes, w_bm, w_bm0, w_rBits, w_tyInt, w_gTupM, w_gCons, w_gNil, w_dgS, w_dgI, w_sDP, w_dpS, w_dpI, w_dII, w_disp, tPairs, pen_s, pen_a, pen_l, pen_len, pen_pa, pen_pl, HO.dK.injEq, w_append, List.getElem?_cons_zero, List.getElem?_cons_succ, List.set_cons_zero, List.set_cons_succ, Option.some.injEq, V.int.injEq, V.bl.injEq, V.ref.injEq, V.str.injEq, exists_eq_left', exists_eq_left, List.append_nil, List.cons.injEq, and_true, true_and, exists_and_left, decide_eq_true_eq, Bool.not_eq_true', decide_eq_false_iff_not, Bool.not_true, Bool.not_false, w_ixM, w_ixU, w_ixL, w_setL, w_cxK, w_isI_ii, w_isI_ib, w_isI_bi, w_isI_bb, w_isI_ni, w_isI_nb, w_isI_si, w_isI_sb, sl_0, sl_1, sl_2, sl_3, sl_4, sl_5, sl_6, sl_7, sl_8, CPowB, w_shl1, at_0, at_1, at_2, at_3, ixN_0, ixN_1, ixN_2, upd_same, HO.lst.injEq, HO.tup.injEq, Int.reduceToNat, Int.reducePow, Int.reduceNeg, Int.reduceLT, Int.reduceLE, Int.reduceMod, Int.reduceMul, Int.reduceAdd, Int.reduceSub, Int.reduceDiv, Int.reduceEq, ite_true, ite_false, if_true, if_false, Bool.true_eq_false, Bool.false_eq_true, List.length_cons, List.length_nil, reduceCtorEq, false_and, and_false, not_false_eq_true, not_true_eq_false, exists_false, false_or, or_false, w_pop, w_extend, w_reverse, w_clear, w_cat, w_LZ, w_LR, w_forD, w_compZ2]; try simp only [w_gLst, w_forE, w_compE, w_compZ, w_for3, w_gTupK, w_ixT, w_eqS, w_aug, w_ipI, w_dnK, w_maxD, w_sl, w_noPart, w_part, w_slL, w_var, w_C, w_op, w_un, w_rI, w_rI0, w_rU, w_eqI, w_neI, w_eqB, w_neB, w_seq, w_next, w_break, w_cont, w_ifS, w_ret, w_retN, w_drop, w_asg, w_gName, w_gSub, w_test, w_B, w_and, w_or, w_not, w_andV, w_orV, w_notV, w_if, w_call, w_nil, w_cons, w_CB, w_lst, w_tup, w_isN, w_notN, w_chain, w_for1, w_for2b, w_On2, w_forL, w_forT, w_forV, w_compL, w_compT, w_comp1, w_comp2b, w_yes, w_bm, w_bm0, w_rBits, w_tyInt, w_gTupM, w_gCons, w_gNil, w_dgS, w_dgI, w_sDP, w_dpS, w_dpI, w_dII, w_disp, tPairs, pen_s, pen_a, pen_l, pen_len, pen_pa, pen_pl, HO.dK.injEq, w_append, List.getElem?_cons_zero, List.getElem?_cons_succ, List.set_cons_zero, List.set_cons_succ, Option.some.injEq, V.int.injEq, V.bl.injEq, V.ref.injEq, V.str.injEq, exists_eq_left', exists_eq_left, List.append_nil, List.cons.injEq, and_true, true_and, exists_and_left, decide_eq_true_eq, Bool.not_eq_true', decide_eq_false_iff_not, Bool.not_true, Bool.not_false, w_ixM, w_ixU, w_ixL, w_setL, w_cxK, w_isI_ii, w_isI_ib, w_isI_bi, w_isI_bb, w_isI_ni, w_isI_nb, w_isI_si, w_isI_sb, sl_0, sl_1, sl_2, sl_3, sl_4, sl_5, sl_6, sl_7, sl_8, CPowB, w_shl1, at_0, at_1, at_2, at_3, ixN_0, ixN_1, ixN_2, upd_same, HO.lst.injEq, HO.tup.injEq, Int.reduceToNat, Int.reducePow, Int.reduceNeg, Int.reduceLT, Int.reduceLE, Int.reduceMod, Int.reduceMul, Int.reduceAdd, Int.reduceSub, Int.reduceDiv, Int.reduceEq, ite_true, ite_false, if_true, if_false, Bool.true_eq_false, Bool.false_eq_true, List.length_cons, List.length_nil, reduceCtorEq, false_and, and_false, not_false_eq_true, not_true_eq_false, exists_false, false_or, or_false, w_pop, w_extend, w_reverse, w_clear, w_cat, w_LZ, w_LR, w_forD, w_compZ2]) | simp only [w_gLst, w_forE, w_compE, w_compZ, w_for3, w_gTupK, w_ixT, w_eqS, w_aug, w_ipI, w_dnK, w_maxD, w_sl, w_noPart, w_part, w_slL, w_var, w_C, w_op, w_un, w_rI, w_rI0, w_rU, w_eqI, w_neI, w_eqB, w_neB, w_seq, w_next, w_break, w_cont, w_ifS, w_ret, w_retN, w_drop, w_asg, w_gName, w_gSub, w_test, w_B, w_and, w_or, w_not, w_andV, w_orV, w_notV, w_if, w_call, w_nil, w_cons, w_CB, w_lst, w_tup, w_isN, w_notN, w_chain, w_for1, w_for2b, w_On2, w_forL, w_forT, w_forV, w_compL, w_compT, w_comp1, w_comp2b, w_yes, w_bm, w_bm0, w_rBits, w_tyInt, w_gTupM, w_gCons, w_gNil, w_dgS, w_dgI, w_sDP, w_dpS, w_dpI, w_dII, w_disp, tPairs, pen_s, pen_a, pen_l, pen_len, pen_pa, pen_pl, HO.dK.injEq, w_append, List.getElem?_cons_zero, List.getElem?_cons_succ, List.set_cons_zero, List.set_cons_succ, Option.some.injEq, V.int.injEq, V.bl.injEq, V.ref.injEq, V.str.injEq, exists_eq_left', exists_eq_left, List.append_nil, List.cons.injEq, and_true, true_and, exists_and_left, decide_eq_true_eq, Bool.not_eq_true', decide_eq_false_iff_not, Bool.not_true, Bool.not_false, w_ixM, w_ixU, w_ixL, w_setL, w_cxK, w_isI_ii, w_isI_ib, w_isI_bi, w_isI_bb, w_isI_ni, w_isI_nb, w_isI_si, w_isI_sb, sl_0, sl_1, sl_2, sl_3, sl_4, sl_5, sl_6, sl_7, sl_8, CPowB, w_shl1, at_0, at_1, at_2, at_3, ixN_0, ixN_1, ixN_2, upd_same, HO.lst.injEq, HO.tup.injEq, Int.reduceToNat, Int.reducePow, Int.reduceNeg, Int.reduceLT, Int.reduceLE, Int.reduceMod, Int.reduceMul, Int.reduceAdd, Int.reduceSub, Int.reduceDiv, Int.reduceEq, ite_true, ite_false, if_true, if_false, Bool.true_eq_false, Bool.false_eq_true, List.length_cons, List.length_nil, reduceCtorEq, false_and, and_false, not_false_eq_true, not_true_eq_false, exists_false, false_or, or_false, w_pop, w_extend, w_reverse, w_clear, w_cat, w_LZ, w_LR, w_forD, w_compZ2]))
section
variable {P : Program} {w : World} {K : PySem.W.Frag} {mg : Str → Option Value} {base : Heap}
theorem ok_feed (T : Txt K mg) : Cal P w K mg base 1 "_law_feed" ["_law_script", "_law_k"] (spFeed K) := by
  have B := T.bl
  refine mkCal T.t_l_feed sc_l_feed (fun vs H Q E h => ?_) (fun f cdv A outer s H vs Q E hr h => ?_)
  · obtain ⟨a, ns, k, rfl, _⟩ := h
    rfl
  obtain ⟨a, ns, k, rfl, hS, h63, h0, h1, q⟩ := h
  refine ⟨_, (pss_cons (ps_set (i := 2) sc_l_feed.nd rfl (by first | exact Or.inl rfl | exact Or.inr rfl) pe_int)
    (pss_cons (ps_if (pt_cmpR op_lt (pv 1) (pe_callB call_lenS rfl B.len bo_len (pa_cons (pv 0) pa_nil)) (nomark _)) (pss_one (ps_set (i := 2) sc_l_feed.nd rfl (by first | exact Or.inl rfl | exact Or.inr rfl) (pe_ix ix_list (pv 0) (pv 1) (fun _ _ => rfl)))) pss_nil)
    (pss_cons (ps_set (i := 3) sc_l_feed.nd rfl (by first | exact Or.inl rfl | exact Or.inr rfl) (pe_callB call_abs rfl B.abs bo_abs (pa_cons (pv 2) pa_nil)))
    (pss_cons (ps_if (pt_cmpR op_lt (pv 3) (pe_op op_powB pe_int pe_int) (nomark _)) (pss_one (ps_set (i := 3) sc_l_feed.nd rfl (by first | exact Or.inl rfl | exact Or.inr rfl) pe_int)) pss_nil)
    (pss_one (ps_ret (pe_lst (pa_cons (pv 3) (pa_cons (pe_op op_mod (pe_op op_add (pe_op op_add (pe_op op_mulB (pe_op op_mod (pv 2) pe_int) pe_int) (pe_op op_mulB pe_int (pv 1))) pe_int) pe_int) (pa_cons pe_int pa_nil)))))))))), ?_⟩
  rw [show start ["_law_script", "_law_k", "_law_cell", "_law_great"] [.ref a, .int k] = [some (.ref a), some (.int k), none, none] from rfl]
  try walk_at "WP"
  refine ⟨_, hS.sq, ?_⟩
  split
  · rename_i hk
    rw [List.length_map] at hk
    obtain ⟨v, hv, _⟩ := atI_int h0 hk
    refine ⟨_, hS.sq, _, hv, ?_⟩
    try walk_at "WP"
    refine ite2 (fun _ => ?_) (fun _ => ?_)
    · refine ⟨mul_r (by decide) (by decide), mul_l (by decide) (by decide), fun p hp => ?_⟩
      exact q p _ hp (same_new hp _) (feed_of (by decide) (by omega) (by omega) (by decide) (by decide))
    · refine ⟨mul_r (by decide) (by decide), mul_l (by decide) (by decide), fun p hp => ?_⟩
      exact q p _ hp (same_new hp _) (feed_of (by split <;> omega) (by omega) (by omega) (by decide) (by decide))
  · refine ⟨mul_r (by decide) (by decide), mul_l (by decide) (by decide), fun p hp => ?_⟩
    exact q p _ hp (same_new hp _) (feed_of (by decide) (by omega) (by omega) (by decide) (by decide))
theorem ok_takeN (T : Txt K mg) : ∀ n, Cal P w K mg base n "_law_take" ["_law_feed_here", "_law_many"] (spTakeN n)
  | 0 => by
    obtain ⟨f, fd, F, m, b⟩ := T.t_l_take
    have no : ∀ vs H Q E, ¬ spTakeN 0 vs H Q E := fun vs H Q E h => by
      obtain ⟨p, m, c, _, _, _, h0, _⟩ := h
      omega
    exact ⟨f, fd, ⟨fun vs H Q E h => absurd h (no vs H Q E), fun A outer s H args us vs Q E _ _ _ _ h => absurd h (no vs H Q E)⟩, m, F.kp, b⟩
  | n + 1 => by
    have C_l_take := ok_takeN T n
    have B := T.bl
    refine mkCal T.t_l_take sc_l_take (fun vs H Q E h => ?_) (fun f cdv A outer s H vs Q E hr h => ?_)
    · obtain ⟨a, m, c, rfl, _⟩ := h
      rfl
    obtain ⟨p, m, c, rfl, hF, hc, _, hn, hm, hl, q⟩ := h
    refine ⟨_, (pss_cons (ps_if (pt_cmpR op_gt (pv 1) (pe_op op_powB pe_int pe_int) (nomark _)) (pss_cons (ps_set (i := 2) sc_l_take.nd rfl (by first | exact Or.inl rfl | exact Or.inr rfl) (pe_cal C_l_take hr rfl (pa_cons (pv 0) (pa_cons (pe_op op_add (pe_op op_fdivB (pv 1) (pe_op op_powB pe_int pe_int)) pe_int) pa_nil))))
    (pss_one (ps_ret (pe_op op_mod (pe_op op_add (pe_op op_mulB (pv 2) (pe_op op_powB pe_int pe_int)) (pe_cal C_l_take hr rfl (pa_cons (pv 0) (pa_cons (pe_op op_powB pe_int pe_int) pa_nil)))) (pv 1))))) pss_nil)
    (pss_cons (ps_if (pt_cmpR op_gt (pe_ix ix_M (pv 0) pe_int (fun _ _ => rfl)) pe_int (nomark _)) (pss_cons (ps_set (i := 3) sc_l_take.nd rfl (by first | exact Or.inl rfl | exact Or.inr rfl) (pe_op op_mod (pe_ix ix_M (pv 0) pe_int (fun _ _ => rfl)) (pv 1)))
    (pss_cons (ps_asg (pe_op op_fdivB (pe_ix ix_M (pv 0) pe_int (fun _ _ => rfl)) (pv 1)) (pg_sub (pv 0) pe_int set_list))
    (pss_one (ps_ret (pv 3))))) pss_nil)
    (pss_cons (ps_set (i := 4) sc_l_take.nd rfl (by first | exact Or.inl rfl | exact Or.inr rfl) (pe_op op_add (pe_ix ix_M (pv 0) pe_int (fun _ _ => rfl)) pe_int))
    (pss_cons (ps_asg (pv 4) (pg_sub (pv 0) pe_int set_list))
    (pss_cons (ps_set (i := 5) sc_l_take.nd rfl (by first | exact Or.inl rfl | exact Or.inr rfl) (pe_op op_mod (pe_op op_add (pe_op op_add (pe_ix ix_M (pv 0) pe_int (fun _ _ => rfl)) (pe_op op_mulB (pe_op op_mulB pe_int (pv 4)) (pv 4))) (pe_op op_mulB pe_int (pv 4))) pe_int))
    (pss_cons (ps_set (i := 5) sc_l_take.nd rfl (by first | exact Or.inl rfl | exact Or.inr rfl) (pe_op op_mod (pe_op op_add (pe_op op_add (pe_op op_mulB (pv 5) (pv 5)) (pe_op op_mulB pe_int (pv 5))) (pv 4)) pe_int))
    (pss_cons (ps_set (i := 5) sc_l_take.nd rfl (by first | exact Or.inl rfl | exact Or.inr rfl) (pe_op op_mod (pe_op op_add (pe_op op_mulB (pv 5) (pv 5)) (pe_op op_mulB pe_int (pv 5))) pe_int))
    (pss_one (ps_ret (pe_op op_mod (pe_op op_fdivB (pv 5) pe_int) (pv 1))))))))))), ?_⟩
    obtain ⟨g, d, st, hH, hg, hd0, hd1, hs0, hs1⟩ := id hF
    rw [show start ["_law_feed_here", "_law_many", "_law_high", "_law_digit", "_law_step", "_law_mixed"] [.ref p, .int m] = [some (.ref p), some (.int m), none, none, none, none] from rfl]
    (iterate 5 ((try (walk_at "WP")); (try (simp only [hH, Option.some.injEq, HO.tup.injEq, HO.lst.injEq, HO.dK.injEq, exists_eq_left', exists_eq_left])))); (try (walk_at "WP"))
    have t2 := two_pow (n := n)
    have l2 := lim_ge n
    split
    · rename_i hbig
      have hl' : m ≤ 1000000 * (lim n - 1) := hl
      have hn0 : 0 < n := by
        rcases Nat.eq_zero_or_pos n with e | e
        · subst e
          have : lim 0 = 11 := rfl
          omega
        · exact e
      refine ⟨divB (by decide) (by decide), p, m / 1000000 + 1, c, rfl, hF, by omega, hn0, by omega, by omega, by omega, fun r H1 r0 r1 F1 C1 => ?_⟩
      try walk_at "WP"
      refine ⟨mul_r (by decide) (by decide), p, 1000000, c + 2 ^ n, rfl, F1, by omega, hn0, by omega, by decide, by have := l2.2 hn0; omega, fun r' H2 r0' r1' F2 C2 => ?_⟩
      try walk_at "WP"
      exact ⟨by omega, q _ _ (modq (by omega)).1 (modq (by omega)).2 (F2.mono (by omega)) (C1.trans C2)⟩
    · rename_i hsm
      split
      · rename_i hgp
        exact ⟨by omega, divB (by omega) (by omega), q _ _ (modq (by omega)).1 (modq (by omega)).2 (feed_of (divq hg (by omega)) hd0 hd1 hs0 (by omega)) (Chg.upd _)⟩
      · refine ⟨mul_l (by decide) (by decide), mul_r (by omega) (by omega), mul_l (by decide) (by decide), mul_l (by omega) (by omega), mul_l (by decide) (by decide), mul_l (by omega) (by omega), mul_l (by decide) (by decide), divB (by decide) (by decide), by omega, ?_⟩
        exact q _ _ (modq (by omega)).1 (modq (by omega)).2 (feed_of hg hd0 hd1 (by omega) (by omega)) (Chg.upd _)
theorem ok_take (T : Txt K mg) : Cal P w K mg base 10 "_law_take" ["_law_feed_here", "_law_many"] spTake :=
  (ok_takeN T 10).imp fun vs H Q E h => by
    obtain ⟨p, m, c, e, hF, hc, h1, h2, q⟩ := h
    refine ⟨p, m, c, e, hF, by omega, by decide, by decide, h1, Int.le_trans h2 (by decide +kernel), fun r H' a b F C => q r H' a b (F.mono (by omega)) C⟩
end

section
variable {P : Program} {w : World} {K : PySem.W.Frag} {mg : Str → Option Value} {base : Heap}
theorem ok_flow (T : Txt K mg) : Cal P w K mg base 1 "_law_low" ["_law_row"] spLower := by
  have B := T.bl
  refine mkCal T.t_l_low sc_l_low (fun vs H Q E h => ?_) (fun f cdv A outer s H vs Q E hr h => ?_)
  · obtain ⟨l, xs, rfl, _⟩ := h
    rfl
  obtain ⟨l, xs, rfl, hl, hlen, q⟩ := h
  refine ⟨_, (pss_cons (ps_for PassesOwn.never rfl (pi_range1 rfl B.range (pa_cons pe_int pa_nil)) (pg_name (i := 1) sc_l_low.nd rfl (by first | exact Or.inl rfl | exact Or.inr rfl)) (pss_one (ps_if (pt_val (pe_callB (call_any rfl) rfl B.any bo_any (pa_cons (pe_compC (N := ["_law_part", "_law_k"]) (nt := 1) (cs := [1]) rfl (pi_list (pv 0)) (fun nd C s H fp => ⟨(pg_name (i := 0) nd rfl (by first | exact Or.inl rfl | exact Or.inr rfl)), pn_nil, (pe_cmpR op_ne (pe_op op_mod (pv 0) (pe_op op_shlB pe_int (pv 1))) pe_int (nomark _))⟩) (by decide +kernel) (by first | rfl | decide +kernel) (by first | rfl | decide +kernel) rfl (fun _ => rfl)) pa_nil))) (pss_one (ps_ret (pv 1))) pss_nil)))
    (pss_one (ps_ret pe_int))), ?_⟩
  rw [show start ["_law_row", "_law_k"] [.ref l] = [some (.ref l), none] from rfl]
  try walk_at "WP"
  refine forR (fun i σ H2 => ∃ o1, σ = [some (.ref l), o1] ∧ Same H H2 ∧ ∀ x ∈ xs, (2 : Int) ^ i ∣ x) ⟨none, rfl, Same.refl _, fun x _ => by rw [Int.pow_zero]; exact Int.one_dvd x⟩ ?_ ?_
  · rintro i σ H2 N hi ⟨o1, rfl, s2, hd⟩ hN
    have hl2 := s2 _ _ hl
    try walk_at "WP"
    refine ⟨⟨_, SqL.of hl2⟩, ?_⟩
    refine comp_L (f := fun v => match v with | .int n => some (V.bl (!decide (n % (2 * 2 ^ i) = 0))) | _ => none) (SqL.of hl2) (by rw [List.length_map]; exact le_big (by omega)) (fun y H' R hy hS' hR => ?_) (fun acc hacc => ?_)
    · obtain ⟨n, hn, rfl⟩ := List.mem_map.mp hy
      rw [show capV [1] [some (V.ref l), some (V.int (0 + (i : Int)))] = [some (V.int (0 + (i : Int)))] from rfl]
      try walk_at "WP"
      rw [Int.zero_add, Int.toNat_natCast]
      have pp := pow_pos2 i
      refine ⟨⟨by omega, by omega, Nat.le_trans (bits_le (n := 2) (by decide)) (by decide)⟩, by omega, ?_⟩
      exact hR
    have eb : (xs.map V.int).filterMap (fun v => match v with | .int n => some (V.bl (!decide (n % (2 * 2 ^ i) = 0))) | _ => none) = (xs.map fun n => !decide (n % (2 * 2 ^ i) = 0)).map V.bl := by
      rw [List.filterMap_map, List.map_map, ← filterMap_some]
      rfl
    rw [eb]
    have sa := same_new hacc (.lst ((xs.map fun n => !decide (n % (2 * 2 ^ i) = 0)).map V.bl))
    have ha : (upd H2 acc (.lst ((xs.map fun n => !decide (n % (2 * 2 ^ i) = 0)).map V.bl))) acc = some (.lst ((xs.map fun n => !decide (n % (2 * 2 ^ i) = 0)).map V.bl)) := upd_same
    generalize upd H2 acc (.lst ((xs.map fun n => !decide (n % (2 * 2 ^ i) = 0)).map V.bl)) = H3 at sa ha ⊢
    try walk_at "WP"
    refine ⟨acc, _, rfl, ha, ?_⟩
    try walk_at "WP"
    by_cases z : ((xs.map fun n => !decide (n % (2 * 2 ^ i) = 0)).any id) = true
    · rw [if_pos z]
      refine q _ _ (by omega) (by omega) ?_ (s2.trans sa)
      rw [Int.zero_add, Int.toNat_natCast]
      exact hd
    · rw [if_neg z]
      refine hN _ _ ⟨_, rfl, s2.trans sa, fun x hx => ?_⟩
      have hz : ¬ (!decide (x % (2 * 2 ^ i) = 0)) = true := fun h => z (List.any_eq_true.mpr ⟨_, List.mem_map.mpr ⟨x, hx, rfl⟩, h⟩)
      have hz2 : x % (2 * 2 ^ i) = 0 := by
        rw [Bool.not_eq_true', decide_eq_false_iff_not, Decidable.not_not] at hz
        exact hz
      rw [Int.pow_succ, Int.mul_comm]
      exact Int.dvd_of_emod_eq_zero hz2
  · rintro σ H2 ⟨o1, rfl, s2, hd⟩
    try walk_at "WP"
    exact q 40 _ (by decide) (by decide) hd s2
theorem ok_fmoved (T : Txt K mg) : Cal P w K mg base 1 "_law_moved" ["_law_row", "_law_shift_here"] spLMoved := by
  have B := T.bl
  refine mkCal T.t_l_moved sc_l_moved (fun vs H Q E h => ?_) (fun f cdv A outer s H vs Q E hr h => ?_)
  · obtain ⟨l, xs, sh, rfl, _⟩ := h
    rfl
  obtain ⟨l, xs, sh, rfl, hl, hlen, hb, s0, s1, q⟩ := h
  refine ⟨_, (pss_cons (ps_if (pt_cmpR op_ge (pv 1) pe_int (nomark _)) (pss_one (ps_ret (pe_compC (N := ["_law_part", "_law_shift_here"]) (nt := 1) (cs := [1]) rfl (pi_list (pv 0)) (fun nd C s H fp => ⟨(pg_name (i := 0) nd rfl (by first | exact Or.inl rfl | exact Or.inr rfl)), pn_nil, (pe_op op_shlB (pv 0) (pv 1))⟩) (by decide +kernel) (by first | rfl | decide +kernel) (by first | rfl | decide +kernel) rfl (fun _ => rfl)))) pss_nil)
    (pss_one (ps_ret (pe_compC (N := ["_law_part", "_law_shift_here"]) (nt := 1) (cs := [1]) rfl (pi_list (pv 0)) (fun nd C s H fp => ⟨(pg_name (i := 0) nd rfl (by first | exact Or.inl rfl | exact Or.inr rfl)), pn_nil, (pe_op op_shr (pv 0) (pe_un un_neg (pv 1)))⟩) (by decide +kernel) (by first | rfl | decide +kernel) (by first | rfl | decide +kernel) rfl (fun _ => rfl))))), ?_⟩
  rw [show start ["_law_row", "_law_shift_here"] [.ref l, .int sh] = [some (.ref l), some (.int sh)] from rfl]
  try walk_at "WP"
  have ecap : capV [1] [some (V.ref l), some (V.int sh)] = [some (V.int sh)] := rfl
  refine ite2 (fun z => ?_) (fun z => ?_)
  · refine ⟨⟨_, SqL.of hl⟩, ?_⟩
    refine comp_L (f := liI (mvI sh)) (SqL.of hl) (by rw [List.length_map]; exact le_big (by omega)) (fun y H' R hy hS' hR => ?_) (fun acc hacc => ?_)
    · obtain ⟨n, hn, rfl⟩ := List.mem_map.mp hy
      rw [ecap]
      try walk_at "WP"
      refine ⟨⟨by omega, by omega, Nat.le_trans (bits_le (hb n hn)) (by decide)⟩, ?_⟩
      rw [← mvI_up z]
      exact hR
    rw [liI_map]
    exact q acc _ hacc (same_new hacc _) upd_same
  · refine ⟨⟨_, SqL.of hl⟩, ?_⟩
    refine comp_L (f := liI (mvI sh)) (SqL.of hl) (by rw [List.length_map]; exact le_big (by omega)) (fun y H' R hy hS' hR => ?_) (fun acc hacc => ?_)
    · obtain ⟨n, hn, rfl⟩ := List.mem_map.mp hy
      rw [ecap]
      try walk_at "WP"
      refine ⟨by omega, ?_⟩
      rw [← mvI_down (by omega)]
      exact hR
    rw [liI_map]
    exact q acc _ hacc (same_new hacc _) upd_same
theorem ok_fpick (T : Txt K mg) : Cal P w K mg base 11 "_law_picked" ["_law_feed_here", "_law_many"] spFPick := by
  have B := T.bl
  have C_l_take := ok_take (P := P) (w := w) (base := base) T
  refine mkCal T.t_l_picked sc_l_picked (fun vs H Q E h => ?_) (fun f cdv A outer s H vs Q E hr h => ?_)
  · obtain ⟨p, m, c, rfl, _⟩ := h
    rfl
  obtain ⟨p, m, c, rfl, hF, hc, h1, h2, q⟩ := h
  refine ⟨_, (pss_cons (ps_if (pt_cmpR op_eq (pe_cal C_l_take hr rfl (pa_cons (pv 0) (pa_cons pe_int pa_nil))) pe_int (nomark _)) (pss_one (ps_ret (pe_op op_sub (pe_op op_sub (pv 1) pe_int) (pe_cal C_l_take hr rfl (pa_cons (pv 0) (pa_cons (pe_callB (call_min2 rfl) rfl B.min bo_min (pa_cons (pv 1) (pa_cons pe_int pa_nil))) pa_nil)))))) pss_nil)
    (pss_one (ps_ret (pe_cal C_l_take hr rfl (pa_cons (pv 0) (pa_cons (pv 1) pa_nil)))))), ?_⟩
  rw [show start ["_law_feed_here", "_law_many"] [.ref p, .int m] = [some (.ref p), some (.int m)] from rfl]
  try walk_at "WP"
  refine take_ hF (by omega) (by decide) (by decide) fun r1 H1 r10 r11 F1 C1 => ?_
  try walk_at "WP"
  refine ite2 (fun z => ?_) (fun z => ?_)
  · refine ⟨m, 3, ⟨rfl, rfl⟩, ?_⟩
    generalize hmn : (if 3 < m then (3 : Int) else m) = mn
    have hmn2 : 1 ≤ mn ∧ mn ≤ 3 ∧ mn ≤ m := by rw [← hmn]; split <;> omega
    refine take_ F1 (by omega) (by omega) (by omega) fun r2 H2 r20 r21 F2 C2 => ?_
    try walk_at "WP"
    exact q _ _ (by omega) (by omega) (F2.mono (by omega)) (C1.trans C2)
  · refine take_ F1 (by omega) (by omega) (by omega) fun r2 H2 r20 r21 F2 C2 => ?_
    exact q _ _ r20 r21 (F2.mono (by omega)) (C1.trans C2)
theorem ok_fshift (T : Txt K mg) : Cal P w K mg base 11 "_law_shift" ["_law_feed_here", "_law_row"] spFShift := by
  have B := T.bl
  have C_l_take := ok_take (P := P) (w := w) (base := base) T
  have C_l_low := (ok_flow (P := P) (w := w) (base := base) T).mono (k := 10) (by decide)
  refine mkCal T.t_l_shift sc_l_shift (fun vs H Q E h => ?_) (fun f cdv A outer s H vs Q E hr h => ?_)
  · obtain ⟨p, l, c, xs, rfl, _⟩ := h
    rfl
  obtain ⟨p, l, c, xs, rfl, hF, hc, hl, hlen, hlp, q⟩ := h
  refine ⟨_, (pss_cons (ps_set (i := 2) sc_l_shift.nd rfl (by first | exact Or.inl rfl | exact Or.inr rfl) (pe_cal C_l_take hr rfl (pa_cons (pv 0) (pa_cons pe_int pa_nil))))
    (pss_cons (ps_if (pt_cmpR op_lt (pv 2) pe_int (nomark _)) (pss_one (ps_ret (pe_cal C_l_take hr rfl (pa_cons (pv 0) (pa_cons pe_int pa_nil))))) pss_nil)
    (pss_cons (ps_if (pt_cmpR op_eq (pv 2) pe_int (nomark _)) (pss_one (ps_ret (pe_cal C_l_take hr rfl (pa_cons (pv 0) (pa_cons pe_int pa_nil))))) pss_nil)
    (pss_cons (ps_if (pt_cmpR op_lt (pv 2) pe_int (nomark _)) (pss_one (ps_ret pe_int)) pss_nil)
    (pss_one (ps_ret (pe_un un_neg (pe_cal C_l_take hr rfl (pa_cons (pv 0) (pa_cons (pe_op op_add (pe_cal C_l_low hr rfl (pa_cons (pv 1) pa_nil)) pe_int) pa_nil)))))))))), ?_⟩
  rw [show start ["_law_feed_here", "_law_row", "_law_way"] [.ref p, .ref l] = [some (.ref p), some (.ref l), none] from rfl]
  try walk_at "WP"
  refine take_ hF (by omega) (by decide) (by decide) fun r1 H1 r10 r11 F1 C1 => ?_
  try walk_at "WP"
  have up : ∀ (r : Int) H', 0 ≤ r → r ≤ 40 → Feed H' p (c + 2048) → Chg p H H' → Q (.int r) H' := fun r H' a b F C => q r H' ⟨by omega, b, fun z => by omega⟩ F C
  refine ite2 (fun z => ?_) (fun z => ?_)
  · exact take_ F1 (by omega) (by decide) (by decide) fun r2 H2 r20 r21 F2 C2 => up _ _ r20 (by omega) (F2.mono (by omega)) (C1.trans C2)
  refine ite2 (fun z => ?_) (fun z => ?_)
  · exact take_ F1 (by omega) (by decide) (by decide) fun r2 H2 r20 r21 F2 C2 => up _ _ r20 (by omega) (F2.mono (by omega)) (C1.trans C2)
  refine ite2 (fun z => ?_) (fun z => ?_)
  · exact up _ _ (by omega) (by omega) (F1.mono (by omega)) C1
  have hl1 := C1 _ _ hlp hl
  refine ⟨l, xs, rfl, hl1, hlen, fun f0 H2 f1 f2 fd s2 => ?_⟩
  try walk_at "WP"
  refine take_ (F1.same s2) (by omega) (by omega) (by omega) fun r2 H3 r20 r21 F3 C3 => ?_
  try walk_at "WP"
  refine q _ _ ⟨by omega, by omega, fun _ x hx => ?_⟩ (F3.mono (by omega)) ((C1.trans s2.chg).trans C3)
  have := fd x hx
  refine Int.dvd_trans ?_ this
  rw [show f0.toNat = (- -r2).toNat + (f0.toNat - (- -r2).toNat) by omega, Int.pow_add]
  exact Int.dvd_mul_right _ _
end

section
variable {P : Program} {w : World} {K : PySem.W.Frag} {mg : Str → Option Value} {base : Heap}
theorem ok_fweb (T : Txt K mg) : Cal P w K mg base 12 "_law_web" ["_law_feed_here", "_law_most"] spFWeb := by
  have B := T.bl
  have C_l_take := (ok_take (P := P) (w := w) (base := base) T).mono (k := 11) (by decide)
  have C_l_picked := ok_fpick (P := P) (w := w) (base := base) T
  have C_l_shift := ok_fshift (P := P) (w := w) (base := base) T
  have C_l_moved := (ok_fmoved (P := P) (w := w) (base := base) T).mono (k := 11) (by decide)
  refine mkCal T.t_l_web sc_l_web (fun vs H Q E h => ?_) (fun f cdv A outer s H vs Q E hr h => ?_)
  · obtain ⟨p, c, most, rfl, _⟩ := h
    rfl
  obtain ⟨p, c, most, rfl, hF, hc, hm0, hm1, q⟩ := h
  refine ⟨_, (pss_cons (ps_set (i := 2) sc_l_web.nd rfl (by first | exact Or.inl rfl | exact Or.inr rfl) (pe_ix ix_M (pe_lst (pa_cons pe_int (pa_cons pe_int (pa_cons pe_int (pa_cons pe_int (pa_cons pe_int (pa_cons pe_int pa_nil))))))) (pe_cal C_l_take hr rfl (pa_cons (pv 0) (pa_cons pe_int pa_nil))) (fun _ _ => rfl)))
    (pss_mid (ps_setCompC (ix := 3) (N := ["_law_i", "_law_ins"]) (nt := 1) (cs := [2]) rfl (pi_range1 rfl B.range (pa_cons (pv 2) pa_nil)) (fun nd C s H fp => ⟨(pg_name (i := 0) nd rfl (by first | exact Or.inl rfl | exact Or.inr rfl)), pn_nil, (pe_compC (N := ["_law_k", "_law_i"]) (nt := 1) (cs := [0]) rfl (pi_range1 rfl B.range (pa_cons (pv 1) pa_nil)) (fun nd C s H fp => ⟨(pg_name (i := 0) nd rfl (by first | exact Or.inl rfl | exact Or.inr rfl)), pn_nil, (pe_callTy call_int1 rfl B.int bo_int (pa_cons (pe_cmpR op_eq (pv 0) (pv 1) (nomark _)) pa_nil))⟩) (by decide +kernel) (by first | rfl | decide +kernel) (by first | rfl | decide +kernel) rfl (fun _ => rfl))⟩) (by decide +kernel) (by first | rfl | decide +kernel) (by first | rfl | decide +kernel) rfl (fun _ => rfl) sc_l_web.nd rfl (by first | exact Or.inl rfl | exact Or.inr rfl) (by first | exact .inl rfl | exact .inr rfl) rfl)
    (pss_cons (ps_set (i := 4) sc_l_web.nd rfl (by first | exact Or.inl rfl | exact Or.inr rfl) (pe_lst pa_nil))
    (pss_mid (ps_for PassesOwn.never rfl (pi_range1 rfl B.range (pa_cons (pe_cal C_l_take hr rfl (pa_cons (pv 0) (pa_cons (pe_op op_add (pv 1) pe_int) pa_nil))) pa_nil)) (pg_name (i := 5) sc_l_web.nd rfl (by first | exact Or.inl rfl | exact Or.inr rfl)) (pss_cons (ps_set (i := 6) sc_l_web.nd rfl (by first | exact Or.inl rfl | exact Or.inr rfl) (pe_cal C_l_picked hr rfl (pa_cons (pv 0) (pa_cons (pe_callB call_lenM rfl B.len bo_len (pa_cons (pv 3) pa_nil)) pa_nil))))
    (pss_cons (ps_set (i := 7) sc_l_web.nd rfl (by first | exact Or.inl rfl | exact Or.inr rfl) (pe_cal C_l_picked hr rfl (pa_cons (pv 0) (pa_cons (pe_callB call_lenM rfl B.len bo_len (pa_cons (pv 3) pa_nil)) pa_nil))))
    (pss_cons (ps_set (i := 8) sc_l_web.nd rfl (by first | exact Or.inl rfl | exact Or.inr rfl) (pe_cal C_l_shift hr rfl (pa_cons (pv 0) (pa_cons (pe_ix ix_M (pv 3) (pv 6) (fun _ _ => rfl)) pa_nil))))
    (pss_cons (ps_set (i := 9) sc_l_web.nd rfl (by first | exact Or.inl rfl | exact Or.inr rfl) (pe_cal C_l_shift hr rfl (pa_cons (pv 0) (pa_cons (pe_ix ix_M (pv 3) (pv 7) (fun _ _ => rfl)) pa_nil))))
    (pss_cons (ps_set (i := 10) sc_l_web.nd rfl (by first | exact Or.inl rfl | exact Or.inr rfl) (pe_op op_sub pe_int (pe_op op_mulB pe_int (pe_cal C_l_take hr rfl (pa_cons (pv 0) (pa_cons pe_int pa_nil))))))
    (pss_cons (ps_expr (pe_bm PySem.F.plainAttrs_list PySem.F.slot_list_append PySem.F.type_list_append mt_append (pv 4) (pa_cons (pe_tup (pa_cons (pe_ix ix_M (pe_lst (pa_cons pe_str (pa_cons pe_str pa_nil))) (pe_callTy call_int1 rfl B.int bo_int (pa_cons (pe_cmpR op_eq (pv 10) pe_int (nomark _)) pa_nil)) (fun _ _ => rfl)) (pa_cons (pv 6) (pa_cons (pv 8) (pa_cons (pv 7) (pa_cons (pv 9) pa_nil)))))) pa_nil)))
    (pss_cons (ps_set (i := 11) sc_l_web.nd rfl (by first | exact Or.inl rfl | exact Or.inr rfl) (pe_listzip K rfl rfl B.list rfl B.zip (pa_cons (pe_cal C_l_moved hr rfl (pa_cons (pe_ix ix_M (pv 3) (pv 6) (fun _ _ => rfl)) (pa_cons (pv 8) pa_nil))) (pa_cons (pe_cal C_l_moved hr rfl (pa_cons (pe_ix ix_M (pv 3) (pv 7) (fun _ _ => rfl)) (pa_cons (pv 9) pa_nil))) pa_nil))))
    (pss_one (ps_expr (pe_bm PySem.F.plainAttrs_list PySem.F.slot_list_append PySem.F.type_list_append mt_append (pv 3) (pa_cons (pe_compC (N := ["_law_one", "_law_other", "_law_sign"]) (nt := 2) (cs := [10]) rfl (pi_list (pv 11)) (fun nd C s H fp => ⟨(pg_tupM 2 rfl (pgs_cons (pg_name (i := 0) nd rfl (by first | exact Or.inl rfl | exact Or.inr rfl)) (pgs_cons (pg_name (i := 1) nd rfl (by first | exact Or.inl rfl | exact Or.inr rfl)) pgs_nil))), pn_nil, (pe_op op_add (pv 0) (pe_op op_mulB (pv 2) (pv 1)))⟩) (by decide +kernel) (by first | rfl | decide +kernel) (by first | rfl | decide +kernel) rfl (fun _ => rfl)) pa_nil))))))))))))
    (pss_cons (ps_set (i := 12) sc_l_web.nd rfl (by first | exact Or.inl rfl | exact Or.inr rfl) (pe_lst pa_nil))
    (pss_cons (ps_for PassesOwn.never rfl (pi_range1 rfl B.range (pa_cons (pe_ix ix_M (pe_lst (pa_cons pe_int (pa_cons pe_int (pa_cons pe_int (pa_cons pe_int (pa_cons pe_int (pa_cons pe_int pa_nil))))))) (pe_cal C_l_take hr rfl (pa_cons (pv 0) (pa_cons pe_int pa_nil))) (fun _ _ => rfl)) pa_nil)) (pg_name (i := 5) sc_l_web.nd rfl (by first | exact Or.inl rfl | exact Or.inr rfl)) (pss_cons (ps_set (i := 13) sc_l_web.nd rfl (by first | exact Or.inl rfl | exact Or.inr rfl) (pe_cal C_l_picked hr rfl (pa_cons (pv 0) (pa_cons (pe_callB call_lenM rfl B.len bo_len (pa_cons (pv 3) pa_nil)) pa_nil))))
    (pss_cons (ps_set (i := 14) sc_l_web.nd rfl (by first | exact Or.inl rfl | exact Or.inr rfl) (pe_tup (pa_cons (pv 13) (pa_cons (pe_cal C_l_shift hr rfl (pa_cons (pv 0) (pa_cons (pe_ix ix_M (pv 3) (pv 13) (fun _ _ => rfl)) pa_nil))) (pa_cons (pe_op op_sub pe_int (pe_op op_mulB pe_int (pe_cal C_l_take hr rfl (pa_cons (pv 0) (pa_cons pe_int pa_nil))))) pa_nil)))))
    (pss_cons (ps_if (pt_cmpR op_eq (pe_cal C_l_take hr rfl (pa_cons (pv 0) (pa_cons pe_int pa_nil))) pe_int (nomark _)) (pss_one (ps_set (i := 14) sc_l_web.nd rfl (by first | exact Or.inl rfl | exact Or.inr rfl) (pe_tup (pa_cons pe_int (pa_cons pe_int (pa_cons pe_int pa_nil)))))) pss_nil)
    (pss_one (ps_expr (pe_bm PySem.F.plainAttrs_list PySem.F.slot_list_append PySem.F.type_list_append mt_append (pv 12) (pa_cons (pv 14) pa_nil))))))))
    (pss_one (ps_ret (pe_tup (pa_cons (pe_tup (pa_cons (pv 2) (pa_cons (pv 4) (pa_cons (pv 12) pa_nil)))) (pa_cons (pv 3) pa_nil))))))))))), ?_⟩
  rw [show start ["_law_feed_here", "_law_most", "_law_ins", "_law_rows", "_law_deeds", "_law_k", "_law_a", "_law_b", "_law_s", "_law_t", "_law_sign", "_law_pairs", "_law_outs", "_law_thing", "_law_out"] [.ref p, .int most] = [some (.ref p), some (.int most), none, none, none, none, none, none, none, none, none, none, none, none, none] from rfl]
  try walk_at "WP"
  intro e he
  have se := same_new he (.lst [V.int 1, V.int 1, V.int 2, V.int 3, V.int 6, V.int 12])
  refine take_ (hF.same se) (by omega) (by decide) (by decide) fun r2 H2 r20 r21 P2 C2 => ?_
  have hH2 := C2 e _ (hF.ne he) upd_same
  (iterate 5 ((try (walk_at "WP")); (try (simp only [hH2, Option.some.injEq, HO.tup.injEq, HO.lst.injEq, HO.dK.injEq, exists_eq_left', exists_eq_left])))); (try (walk_at "WP"))
  have hat : ∃ u : Nat, atI [V.int 1, V.int 1, V.int 2, V.int 3, V.int 6, V.int 12] r2 = some (.int u) ∧ 1 ≤ u ∧ u ≤ 12 := by
    have six : r2 = 0 ∨ r2 = 1 ∨ r2 = 2 ∨ r2 = 3 ∨ r2 = 4 ∨ r2 = 5 := by omega
    rcases six with z | z | z | z | z | z <;> subst z
    · exact ⟨1, rfl, by omega, by omega⟩
    · exact ⟨1, rfl, by omega, by omega⟩
    · exact ⟨2, rfl, by omega, by omega⟩
    · exact ⟨3, rfl, by omega, by omega⟩
    · exact ⟨6, rfl, by omega, by omega⟩
    · exact ⟨12, rfl, by omega, by omega⟩
  obtain ⟨ins, hu, u0, u1⟩ := hat
  refine ⟨_, hu, ?_⟩
  have CC2 : Chg p H H2 := se.chg.trans C2
  try walk_at "WP"
  refine mid_of (fun σ H3 => ∃ (tb : Addr) (vs : List V), σ = [some (.ref p), some (.int most), some (.int ins), some (.ref tb), none, none, none, none, none, none, none, none, none, none, none] ∧ H tb = none ∧ H3 tb = some (.lst vs) ∧ HRs H3 [tb, p] vs ((List.range ins).map (unitRow ins)) ∧ tb ≠ p ∧ Feed H3 p (c + 1024) ∧ Chg p H H3) (fun N hN => ?_) ?_
  · try walk_at "WP"
    refine ⟨by omega, by omega, ?_⟩
    rw [Int.toNat_natCast]
    have hex : ∀ e ∈ [p], H2 e ≠ none := fun e he => by
      rw [List.mem_singleton.mp he]
      obtain ⟨xs, hx⟩ := P2.lst
      rw [hx]
      intro z
      cases z
    refine comp_rows (by omega) (unitRow ins) [p] hex (fun i H' R hi s' hR => ?_) (fun tb vs H3 hn s3 h3 hr3 => ?_)
    · rw [show capV [2] [some (V.ref p), some (V.int most), some (V.int (ins : Int)), none, none, none, none, none, none, none, none, none, none, none, none] = [some (.int ins)] from rfl]
      try walk_at "WP"
      refine ⟨by omega, by omega, ?_⟩
      rw [Int.toNat_natCast]
      refine comp_R (f := unV i) (le_size (by omega)) (fun y H5 R5 hy s5 hR5 => ?_) (fun acc hacc => ?_)
      · obtain ⟨k, hk, rfl⟩ := List.mem_map.mp hy
        rw [show capV [0] [some (V.int (0 + (i : Int))), some (V.int (ins : Int))] = [some (V.int (0 + (i : Int)))] from rfl]
        try walk_at "WP"
        rw [show (0 : Int) + (i : Int) = i by omega]
        exact hR5
      · rw [unV_map]
        exact hR acc _ hacc (same_new hacc _) upd_same
    · exact hN _ _ ⟨tb, vs, rfl, CC2.new (P2.ne hn) hn, h3, hr3, P2.ne hn, (P2.same s3).mono (by omega), CC2.trans s3.chg⟩
  · rintro σ H3 ⟨tb, vs, rfl, ntb, htb, hrs, tbp, P3, C3⟩
    try walk_at "WP"
    intro dl hdl
    have sd := same_new hdl (.lst [])
    have dlp : dl ≠ p := P3.ne hdl
    have tbd : tb ≠ dl := ne_of_none htb hdl
    have I0 : FI H p ins tb dl 0 vs [] [] (upd H3 dl (.lst [])) := by
      refine ⟨⟨sd _ _ htb, (hrs.new hdl).same sd, by simp [rowsW], fun r hr => ?_, fun r hr => ?_, upd_same, hts_nil, rfl, fun j d h => by simp at h, C3.trans sd.chg, ntb, C3.new dlp hdl, tbp, dlp, tbd⟩, fun k d h => by simp at h⟩
      · obtain ⟨i, _, rfl⟩ := List.mem_map.mp hr
        refine ⟨by rw [unitRow_len]; exact u1, fun n hn => ?_⟩
        rcases unitRow_bound hn with z | z <;> subst z <;> decide
      · obtain ⟨i, _, rfl⟩ := List.mem_map.mp hr
        exact unitRow_len _ _
    have P4 := P3.same sd
    generalize upd H3 dl (.lst []) = H4 at I0 P4 ⊢
    refine mid_of (fun σ H5 => ∃ (k : Nat) (vs us : List V) (ds : List Wd) (o5 o6 o7 o8 o9 o10 o11 : Option V), σ = [some (.ref p), some (.int most), some (.int ins), some (.ref tb), some (.ref dl), o5, o6, o7, o8, o9, o10, o11, none, none, none] ∧ (k : Int) ≤ most ∧ FI H p ins tb dl k vs us ds H5 ∧ Feed H5 p (c + 3000 + 10000 * k)) (fun N hN => ?_) ?_
    · try walk_at "WP"
      refine take_ P4 (by omega) (by omega) (by omega) fun m H6 m0 m1 P6 C6 => ?_
      try walk_at "WP"
      refine ⟨by omega, by omega, ?_⟩
      obtain ⟨n, rfl⟩ := Int.eq_ofNat_of_zero_le m0
      rw [Int.toNat_natCast]
      have I6 := I0.step P4 C6
      refine forR (fun k σ H7 => ∃ (vs us : List V) (ds : List Wd) (o5 o6 o7 o8 o9 o10 o11 : Option V), σ = [some (.ref p), some (.int most), some (.int ins), some (.ref tb), some (.ref dl), o5, o6, o7, o8, o9, o10, o11, none, none, none] ∧ FI H p ins tb dl k vs us ds H7 ∧ Feed H7 p (c + 3000 + 10000 * k))
        ⟨vs, [], [], none, none, none, none, none, none, none, rfl, I6, P6.mono (by omega)⟩ ?_ ?_
      · rintro k σ H7 N2 hk ⟨vs, us, ds, o5, o6, o7, o8, o9, o10, o11, rfl, I7, P7⟩ hN2
        have hT7 := I7.wi.tbl
        have hvl : vs.length = ins + k := by rw [I7.wi.hrs.len, I7.wi.rl]
        refine seq_inG fun R_ hR_ => ?_
        (iterate 5 ((try (walk_at "WP")); (try (simp only [hT7, Option.some.injEq, HO.tup.injEq, HO.lst.injEq, HO.dK.injEq, exists_eq_left', exists_eq_left])))); (try (walk_at "WP"))
        refine ⟨p, _, _, rfl, P7, by omega, by omega, by omega, fun ra H8 ra0 ra1 P8 C8 => ?_⟩
        have I8 := I7.step P7 C8
        have hT8 := I8.wi.tbl
        (try (walk_at "WP")); (try (refine seq_out hR_ ?_)); (try (refine seq_in fun R_ hR_ => ?_)); (iterate 5 ((try (walk_at "WP")); (try (simp only [hT8, Option.some.injEq, HO.tup.injEq, HO.lst.injEq, HO.dK.injEq, exists_eq_left', exists_eq_left])))); (try (walk_at "WP"))
        refine ⟨p, _, _, rfl, P8, by omega, by omega, by omega, fun rb H9 rb0 rb1 P9 C9 => ?_⟩
        have I9 := I8.step P8 C9
        obtain ⟨ja, rfl⟩ := Int.eq_ofNat_of_zero_le ra0
        obtain ⟨jb, rfl⟩ := Int.eq_ofNat_of_zero_le rb0
        have hja : ja < ins + k := by omega
        have hjb : jb < ins + k := by omega
        have hT9 := I9.wi.tbl
        (try (walk_at "WP")); (try (refine seq_out hR_ ?_)); (try (refine seq_in fun R_ hR_ => ?_)); (iterate 5 ((try (walk_at "WP")); (try (simp only [hT9, Option.some.injEq, HO.tup.injEq, HO.lst.injEq, HO.dK.injEq, exists_eq_left', exists_eq_left])))); (try (walk_at "WP"))
        have hrl : (rowsW ins ds).length = ins + k := I9.wi.rl
        obtain ⟨la, rowa, ea, ea1, ea2, ea3, ea4⟩ := row_of I9.wi.hrs (j := ja) (by omega)
        have ea5 := I9.wi.rw_ _ ea3
        refine ⟨_, ea1, ?_⟩
        refine ⟨p, la, _, rowa, rfl, P9, by omega, ea2, by omega, ea4 p (by simp), fun sa H10 hsa P10 C10 => ?_⟩
        have I10 := I9.step P9 C10
        have hT10 := I10.wi.tbl
        (try (walk_at "WP")); (try (refine seq_out hR_ ?_)); (try (refine seq_in fun R_ hR_ => ?_)); (iterate 5 ((try (walk_at "WP")); (try (simp only [hT10, Option.some.injEq, HO.tup.injEq, HO.lst.injEq, HO.dK.injEq, exists_eq_left', exists_eq_left])))); (try (walk_at "WP"))
        obtain ⟨lb, rowb, eb, eb1, eb2, eb3, eb4⟩ := row_of I10.wi.hrs (j := jb) (by omega)
        have eb5 := I10.wi.rw_ _ eb3
        refine ⟨_, eb1, ?_⟩
        refine ⟨p, lb, _, rowb, rfl, P10, by omega, eb2, by omega, eb4 p (by simp), fun sb H11 hsb P11 C11 => ?_⟩
        have I11 := I10.step P10 C11
        (try (walk_at "WP")); (try (refine seq_out hR_ ?_)); (try (refine seq_in fun R_ hR_ => ?_)); (try (walk_at "WP"))
        refine take_ P11 (by omega) (by decide) (by decide) fun r5 H12 r50 r51 P12 C12 => ?_
        have I12 := I11.step P11 C12
        try walk_at "WP"
        refine ⟨mul_l (by decide) (by decide), ?_⟩
        (try (walk_at "WP")); (try (refine seq_out hR_ ?_)); (try (refine seq_in fun R_ hR_ => ?_)); (try (walk_at "WP"))
        refine ⟨ty_list I12.wi.dll, fun e3 he3 => ?_⟩
        have s3 := same_new he3 (.lst [V.str (Str.ofString "less"), V.str (Str.ofString "sum")])
        have hw : ∃ wd : Str, atI [V.str (Str.ofString "less"), V.str (Str.ofString "sum")] (if 1 - 2 * r5 = 1 then 1 else 0) = some (.str wd) ∧ (wd = "sum" ∨ wd = "less") ∧ sgW wd = 1 - 2 * r5 := by
          have two : r5 = 0 ∨ r5 = 1 := by omega
          rcases two with z | z <;> subst z
          · exact ⟨_, rfl, .inl rfl, by decide⟩
          · exact ⟨_, rfl, .inr rfl, by decide⟩
        obtain ⟨wd, hwd, hws, hsg⟩ := hw
        refine ⟨_, hwd, fun x hx => ?_⟩
        have sx := same_new hx (.tup [V.str wd, V.int (ja : Int), V.int sa, V.int (jb : Int), V.int sb])
        have s13 := s3.trans sx
        have hx13 : (upd (upd H12 e3 (.lst [V.str (Str.ofString "less"), V.str (Str.ofString "sum")])) x (.tup [V.str wd, V.int (ja : Int), V.int sa, V.int (jb : Int), V.int sb])) x = some (.tup (wTup ⟨wd, ja, sa, jb, sb⟩)) := upd_same
        generalize upd (upd H12 e3 (.lst [V.str (Str.ofString "less"), V.str (Str.ofString "sum")])) x (.tup [V.str wd, V.int (ja : Int), V.int sa, V.int (jb : Int), V.int sb]) = H13 at s13 hx13 ⊢
        have hul : us.length = k := by rw [I12.wi.hds.len, I12.wi.dlen]
        refine ⟨us, s13 _ _ I12.wi.dll, Nat.lt_of_lt_of_le (by omega : us.length < 1000) (le_size (by decide)), ?_⟩
        have t14 : (upd H13 dl (.lst (us ++ [.ref x]))) tb = some (.lst vs) := by rw [upd_ne I12.wi.td]; exact s13 _ _ I12.wi.tbl
        have r14 : HRs (upd H13 dl (.lst (us ++ [.ref x]))) [dl, tb, p] vs (rowsW ins ds) := (I12.wi.hrs.same s13).chg (by simp) (Chg.upd _)
        have P14 : Feed (upd H13 dl (.lst (us ++ [.ref x]))) p (c + 3000 + 10000 * k + 2048 + 2048 + 2048 + 2048 + 1024) := by
          obtain ⟨g, m, st, hp, z⟩ := P12
          exact ⟨g, m, st, by rw [upd_ne I12.wi.dp.symm]; exact s13 _ _ hp, z⟩
        generalize hH14 : upd H13 dl (.lst (us ++ [.ref x])) = H14 at t14 r14 P14 ⊢
        obtain ⟨la2, rowa2, fa, fa1, fa2, fa3, fa4⟩ := row_of r14 (j := ja) (by omega)
        have fa5 := I12.wi.rw_ _ fa3
        have fa6 := (I12.wi.rb _ fa3).2
        have e0 : rowa = rowa2 := by rw [ea] at fa; exact Option.some.inj fa
        subst e0
        (try (walk_at "WP")); (try (refine seq_out hR_ ?_)); (try (refine seq_in fun R_ hR_ => ?_)); (iterate 5 ((try (walk_at "WP")); (try (simp only [t14, Option.some.injEq, HO.tup.injEq, HO.lst.injEq, HO.dK.injEq, exists_eq_left', exists_eq_left])))); (try (walk_at "WP"))
        refine ⟨_, fa1, ?_⟩
        have big : ∀ (x : Int), x.natAbs ≤ 2 ^ (41 * k) → x.natAbs < 2 ^ 9000 := fun x hx => Nat.lt_of_le_of_lt hx (Nat.pow_lt_pow_right (by decide) (by omega))
        refine ⟨_, rowa, sa, rfl, fa2, by omega, fun x hx => big x (fa6 x hx), hsa.1, hsa.2.1, fun m1 H15 hm1 s15 h15 => ?_⟩
        have t15 := s15 _ _ t14
        (iterate 5 ((try (walk_at "WP")); (try (simp only [t15, Option.some.injEq, HO.tup.injEq, HO.lst.injEq, HO.dK.injEq, exists_eq_left', exists_eq_left])))); (try (walk_at "WP"))
        obtain ⟨lb2, rowb2, fb, fb1, fb2, fb3, fb4⟩ := row_of (r14.same s15) (j := jb) (by omega)
        have fb5 := I12.wi.rw_ _ fb3
        have fb6 := (I12.wi.rb _ fb3).2
        have e1 : rowb = rowb2 := by rw [eb] at fb; exact Option.some.inj fb
        subst e1
        refine ⟨_, fb1, ?_⟩
        refine ⟨_, rowb, sb, rfl, fb2, by omega, fun x hx => big x (fb6 x hx), hsb.1, hsb.2.1, fun m2 H16 hm2 s16 h16 => ?_⟩
        try walk_at "WP"
        refine ⟨m1, m2, ⟨rfl, rfl⟩, _, SqL.of (s16 _ _ h15), _, SqL.of h16, by simp only [List.length_map]; omega, by simp only [List.length_map]; omega, fun lz zs H17 nlz s17 hlz hzl hzt => ?_⟩
        have t17 := s17 _ _ (s16 _ _ t15)
        (try (walk_at "WP")); (try (refine seq_out hR_ ?_)); (try (refine seq_in fun R_ hR_ => ?_)); (try (walk_at "WP"))
        refine ⟨ty_list t17, ⟨_, SqL.of hlz⟩, ?_⟩
        have ll : (rowb.map (mvI sb)).length = (rowa.map (mvI sa)).length := by simp only [List.length_map]; omega
        refine comp_pairs hlz (by rw [hzl, List.length_map]) ll (by simp only [List.length_map]; omega) (fun j x y hx hy => hzt j _ _ (by rw [List.getElem?_map, hx]; rfl) (by rw [List.getElem?_map, hy]; rfl)) (fun x y => x + (1 - 2 * r5) * y) (fun x y H' R s' hR => ?_) (fun acc H18 nacc s18 hacc => ?_)
        · rw [show capV [10] [some (V.ref p), some (V.int most), some (V.int (ins : Int)), some (V.ref tb), some (V.ref dl), some (V.int (0 + (k : Int))), some (V.int (ja : Int)), some (V.int (jb : Int)), some (V.int sa), some (V.int sb), some (V.int (1 - 2 * r5)), some (V.ref lz), none, none, none] = [some (V.int (1 - 2 * r5))] from rfl]
          rw [List.cons_append, List.cons_append, List.nil_append]
          try walk_at "WP"
          exact ⟨mul_l (by omega) (by omega), hR⟩
        have t18 := s18 _ _ t17
        have erow : List.zipWith (fun x y => x + (1 - 2 * r5) * y) (rowa.map (mvI sa)) (rowb.map (mvI sb)) = rowD (rowsW ins ds) ⟨wd, ja, sa, jb, sb⟩ := by
          unfold rowD
          rw [getD_of ea, getD_of eb, List.zipWith_map, hsg]
        rw [erow] at hacc
        refine ⟨vs, t18, Nat.lt_of_lt_of_le (by omega : vs.length < 1000) (le_size (by decide)), ?_⟩
        obtain ⟨b1, b2⟩ := rowD_bound (d := ⟨wd, ja, sa, jb, sb⟩) I12.wi.rb I12.wi.rw_ (by show ja < _; omega) (by show jb < _; omega) hsa.1 hsa.2.1 hsb.1 hsb.2.1
        have s1418 := ((s15.trans s16).trans s17).trans s18
        have n14 : H14 acc = none := ((s15.trans s16).trans s17).free nacc
        have Ifin := I12.app u1 s13 hx13 (by rw [hH14]; exact s1418) hacc (by rw [hH14]; exact n14) (P14.ne n14) hja hjb hws (by rw [getD_of ea]; exact hsa) (by rw [getD_of eb]; exact hsb) b1 b2
        refine hN2 _ _ ⟨_, _, _, _, _, _, _, _, _, _, rfl, Ifin, ?_⟩
        obtain ⟨g, m, st, hp, z⟩ := P14.same s1418
        exact ⟨g, m, st, by rw [upd_ne I12.wi.tp.symm]; exact hp, z.1, z.2.1, z.2.2.1, z.2.2.2.1, by omega⟩
      · rintro σ H7 ⟨vs, us, ds, o5, o6, o7, o8, o9, o10, o11, rfl, I7, P7⟩
        exact hN _ _ ⟨n, vs, us, ds, o5, o6, o7, o8, o9, o10, o11, rfl, by omega, I7, P7⟩
    · rintro σ H5 ⟨kk, vs, us, ds, o5, o6, o7, o8, o9, o10, o11, rfl, hkk, I5, P5⟩
      try walk_at "WP"
      intro gl hgl
      have sg := same_new hgl (.lst [])
      have P6 := P5.same sg
      have glp : gl ≠ p := P5.ne hgl
      have G0 : FG H p ins tb dl gl kk vs us [] ds [] (upd H5 gl (.lst [])) := ⟨⟨(I5.step P5 sg.chg).wi, (I5.wi.hrs.new hgl).same sg, upd_same, hts_nil, (fun g h => by cases h), I5.wi.chg.new glp hgl, glp, (ne_of_none I5.wi.dll hgl).symm, (ne_of_none I5.wi.tbl hgl).symm⟩, I5.sh, (fun g h => by cases h)⟩
      generalize upd H5 gl (.lst []) = H6 at G0 P6 ⊢
      try walk_at "WP"
      intro e he
      have se := same_new he (.lst [V.int 0, V.int 1, V.int 1, V.int 2, V.int 4, V.int 12])
      refine take_ (P6.same se) (by omega) (by decide) (by decide) fun r3 H7 r30 r31 P7 C7 => ?_
      have hH7 := C7 e _ (P6.ne he) upd_same
      (iterate 5 ((try (walk_at "WP")); (try (simp only [hH7, Option.some.injEq, HO.tup.injEq, HO.lst.injEq, HO.dK.injEq, exists_eq_left', exists_eq_left])))); (try (walk_at "WP"))
      have hat : ∃ u : Nat, atI [V.int 0, V.int 1, V.int 1, V.int 2, V.int 4, V.int 12] r3 = some (.int u) ∧ u ≤ 12 := by
        have six : r3 = 0 ∨ r3 = 1 ∨ r3 = 2 ∨ r3 = 3 ∨ r3 = 4 ∨ r3 = 5 := by omega
        rcases six with z | z | z | z | z | z <;> subst z
        · exact ⟨0, rfl, by omega⟩
        · exact ⟨1, rfl, by omega⟩
        · exact ⟨1, rfl, by omega⟩
        · exact ⟨2, rfl, by omega⟩
        · exact ⟨4, rfl, by omega⟩
        · exact ⟨12, rfl, by omega⟩
      obtain ⟨n, hu, hn12⟩ := hat
      refine ⟨_, hu, ?_⟩
      try walk_at "WP"
      refine ⟨by omega, by omega, ?_⟩
      rw [Int.toNat_natCast]
      have G7 := (G0.step P6 se.chg).step (P6.same se) C7
      refine forR (fun j σ H9 => ∃ (os : List V) (gs : List Go) (o5 o13 o14 : Option V), σ = [some (.ref p), some (.int most), some (.int ins), some (.ref tb), some (.ref dl), o5, o6, o7, o8, o9, o10, o11, some (.ref gl), o13, o14] ∧ FG H p ins tb dl gl kk vs us os ds gs H9 ∧ gs.length = j ∧ Feed H9 p (c + 700000 + 10000 * j))
        ⟨[], [], o5, none, none, rfl, G7, rfl, P7.mono (by omega)⟩ ?_ ?_
      · rintro j σ H9 N2 hj ⟨os, gs, o5, o13, o14, rfl, G9, hgl9, P9⟩ hN2
        have hT9 := G9.wg.wi.tbl
        have hvl : vs.length = ins + kk := by rw [G9.wg.wi.hrs.len, G9.wg.wi.rl]
        have hrl : (rowsW ins ds).length = ins + kk := G9.wg.wi.rl
        (iterate 5 ((try (walk_at "WP")); (try (simp only [hT9, Option.some.injEq, HO.tup.injEq, HO.lst.injEq, HO.dK.injEq, exists_eq_left', exists_eq_left])))); (try (walk_at "WP"))
        refine ⟨p, _, _, rfl, P9, by omega, by omega, by omega, fun ra H10 ra0 ra1 P10 C10 => ?_⟩
        have G10 := G9.step P9 C10
        have hT10 := G10.wg.wi.tbl
        obtain ⟨th, rfl⟩ := Int.eq_ofNat_of_zero_le ra0
        have hth : th < ins + kk := by omega
        (iterate 5 ((try (walk_at "WP")); (try (simp only [hT10, Option.some.injEq, HO.tup.injEq, HO.lst.injEq, HO.dK.injEq, exists_eq_left', exists_eq_left])))); (try (walk_at "WP"))
        obtain ⟨la, rowa, ea, ea1, ea2, ea3, ea4⟩ := row_of G10.wg.wi.hrs (j := th) (by omega)
        have ea5 := G10.wg.wi.rw_ _ ea3
        refine ⟨_, ea1, ?_⟩
        refine ⟨p, la, _, rowa, rfl, P10, by omega, ea2, by omega, ea4 p (by simp), fun sa H11 hsa P11 C11 => ?_⟩
        have G11 := G10.step P10 C11
        try walk_at "WP"
        refine take_ P11 (by omega) (by decide) (by decide) fun r5 H12 r50 r51 P12 C12 => ?_
        have G12 := G11.step P11 C12
        try walk_at "WP"
        refine ⟨mul_l (by decide) (by decide), fun t1 ht1 => ?_⟩
        have s4 := same_new ht1 (.tup [V.int (th : Int), V.int sa, V.int (1 - 2 * r5)])
        have h1t : (upd H12 t1 (.tup [V.int (th : Int), V.int sa, V.int (1 - 2 * r5)])) t1 = some (.tup (gTp ⟨th, sa, 1 - 2 * r5⟩)) := upd_same
        have G13 := G12.step P12 s4.chg
        have P13 := P12.same s4
        generalize upd H12 t1 (.tup [V.int (th : Int), V.int sa, V.int (1 - 2 * r5)]) = H13 at G13 P13 h1t ⊢
        refine take_ P13 (by omega) (by decide) (by decide) fun r6 H14 r60 r61 P14 C14 => ?_
        have G14 := G13.step P13 C14
        obtain ⟨pl, hpl⟩ := P13.lst
        have h1t := C14 _ _ (ne_of h1t hpl (by intro z; cases z)) h1t
        have last : ∀ (H15 : Hp) (x : Addr) (g' : Go), FG H p ins tb dl gl kk vs us os ds gs H15 → H15 x = some (.tup (gTp g')) → g'.th < ins + kk → (g' = ⟨0, 0, 0⟩ ∨ ((g'.sg = 1 ∨ g'.sg = -1) ∧ Sh g'.sh ((rowsW ins ds).getD g'.th []))) → Feed H15 p (c + 700000 + 10000 * ((j + 1 : Nat) : Int)) →
            N2 [some (.ref p), some (.int most), some (.int ins), some (.ref tb), some (.ref dl), some (.int (0 + (j : Int))), o6, o7, o8, o9, o10, o11, some (.ref gl), some (.int (th : Int)), some (.ref x)] (upd H15 gl (.lst (os ++ [V.ref x]))) := fun H15 x g' G15 hx2 hx3 hx4 F15 => by
          refine hN2 _ _ ⟨_, _, _, _, _, rfl, G15.app hx2 hx3 hx4, by simp [hgl9], ?_⟩
          obtain ⟨g, m, st, hp, z⟩ := F15
          exact ⟨g, m, st, by rw [upd_ne G15.wg.gp.symm]; exact hp, z⟩
        have hol : os.length = j := by rw [G14.wg.hgs.len, hgl9]
        have osz : os.length < sizeLine := Nat.lt_of_lt_of_le (by omega : os.length < 1000) (le_size (by decide))
        try walk_at "WP"
        refine ite2 (fun z => ?_) (fun z => ?_)
        · intro t2 ht2
          have s5 := same_new ht2 (.tup [V.int 0, V.int 0, V.int 0])
          have G15 := G14.step P14 s5.chg
          refine ⟨ty_list G15.wg.gll, os, G15.wg.gll, osz, ?_⟩
          exact last _ t2 ⟨0, 0, 0⟩ G15 upd_same (by show 0 < _; omega) (.inl rfl) ((P14.same s5).mono (by omega))
        · refine ⟨ty_list G14.wg.gll, os, G14.wg.gll, osz, ?_⟩
          refine last _ t1 ⟨th, sa, 1 - 2 * r5⟩ G14 h1t hth (.inr ⟨?_, ?_⟩) (P14.mono (by omega))
          · show 1 - 2 * r5 = 1 ∨ 1 - 2 * r5 = -1
            omega
          · show Sh sa ((rowsW ins ds).getD th [])
            rw [getD_of ea]
            exact hsa
      · rintro σ H9 ⟨os, gs, o5, o13, o14, rfl, G9, hgl9, P9⟩
        try walk_at "WP"
        intro w0 hw0 t0 ht0
        have sw := same_new hw0 (.tup [V.int (ins : Int), V.ref dl, V.ref gl])
        have sw2 := same_new ht0 (.tup [V.ref w0, V.ref tb])
        have sw3 := sw.trans sw2
        have kd := G9.wg.wi.dlen
        refine q t0 w0 dl gl tb ins us ds os gs vs _ (G9.wg.wi.chg.new (P9.ne (sw.free ht0)) (sw.free ht0)) (G9.wg.wi.chg.new (P9.ne hw0) hw0) G9.wg.wi.ndl G9.wg.ngl G9.wg.wi.ntb G9.wg.gd.symm G9.wg.wi.td G9.wg.gt.symm upd_same ⟨sw2 _ _ upd_same, sw3 _ _ G9.wg.wi.dll, G9.wg.wi.hds.same sw3, sw3 _ _ G9.wg.gll, G9.wg.hgs.same sw3⟩ ⟨⟨u0, u1, G9.wg.wi.dk, ?_, ?_, ?_⟩, G9.sh, G9.go, ?_, G9.wg.wi.rw_⟩ (sw3 _ _ G9.wg.wi.tbl) (G9.wg.hrs.same sw3) (by rw [kd]; exact hkk) ((P9.same sw3).mono (by omega)) (G9.wg.wi.chg.trans sw3.chg)
        · intro g hg
          rw [kd]
          exact G9.wg.gk g hg
        · rw [kd]; omega
        · omega
        · rw [kd]; exact G9.wg.wi.rb
end

section
variable {P : Program} {w : World} {K : PySem.W.Frag} {mg : Str → Option Value} {base : Heap}
theorem ok_second (T : Txt K mg) : Cal P w K mg base 1 "second_sign" ["deed"] spSnd := by
  have B := T.bl
  refine mkCal T.t_second_sign sc_second_sign (fun vs H Q E h => ?_) (fun f cdv A outer s H vs Q E hr h => ?_)
  · obtain ⟨x, d, rfl, _⟩ := h
    rfl
  obtain ⟨x, d, rfl, hx, q⟩ := h
  refine ⟨_, (pss_one (ps_ret (pe_ifExp (pt_cmpR op_eq (pe_ix ix_U (pv 0) pe_int (fun _ _ => rfl)) pe_str (nomark _)) (pe_un un_neg pe_int) pe_int))), ?_⟩
  rw [show start ["deed"] [.ref x] = [some (.ref x)] from rfl]
  unfold wTup at hx
  (iterate 5 ((try (walk_at "WP")); (try (simp only [hx, Option.some.injEq, HO.tup.injEq, HO.lst.injEq, HO.dK.injEq, exists_eq_left', exists_eq_left])))); (try (walk_at "WP"))
  unfold sgW at q
  by_cases z : d.w = Str.ofString "less"
  · rw [if_pos z] at q ⊢
    exact q
  · rw [if_neg z] at q ⊢
    exact q
end

section
variable {P : Program} {w : World} {K : PySem.W.Frag} {mg : Str → Option Value} {base : Heap}
theorem ok_darr (T : Txt K mg) : Cal P w K mg base 2 "deed_arrows" ["web"] spDArr := by
  have B := T.bl
  have C_second_sign := ok_second (P := P) (w := w) (base := base) T
  refine mkCal T.t_deed_arrows sc_deed_arrows (fun vs H Q E h => ?_) (fun f cdv A outer s H vs Q E hr h => ?_)
  · obtain ⟨x, _, _, _, _, _, _, _, rfl, _⟩ := h
    rfl
  obtain ⟨x, dl, gl, ins, us, ds, os, gs, rfl, W, hlen, q⟩ := h
  refine ⟨_, (pss_cons (ps_set (i := 1) sc_deed_arrows.nd rfl (by first | exact Or.inl rfl | exact Or.inr rfl) (pe_lst pa_nil))
    (pss_cons (ps_for PassesOwn.never rfl (pi_enum rfl B.enumerate (pa_cons (pe_ix ix_U (pv 0) pe_int (fun _ _ => rfl)) pa_nil)) (pg_tupM 2 rfl (pgs_cons (pg_name (i := 2) sc_deed_arrows.nd rfl (by first | exact Or.inl rfl | exact Or.inr rfl)) (pgs_cons (pg_name (i := 3) sc_deed_arrows.nd rfl (by first | exact Or.inl rfl | exact Or.inr rfl)) pgs_nil))) (pss_cons (ps_set (i := 4) sc_deed_arrows.nd rfl (by first | exact Or.inl rfl | exact Or.inr rfl) (pe_op op_add (pe_ix ix_U (pv 0) pe_int (fun _ _ => rfl)) (pv 2)))
    (pss_cons (ps_expr (pe_bm PySem.F.plainAttrs_list PySem.F.slot_list_append PySem.F.type_list_append mt_append (pv 1) (pa_cons (pe_tup (pa_cons (pe_ix ix_U (pv 3) pe_int (fun _ _ => rfl)) (pa_cons (pv 4) (pa_cons (pe_ix ix_U (pv 3) pe_int (fun _ _ => rfl)) (pa_cons pe_int pa_nil))))) pa_nil)))
    (pss_one (ps_expr (pe_bm PySem.F.plainAttrs_list PySem.F.slot_list_append PySem.F.type_list_append mt_append (pv 1) (pa_cons (pe_tup (pa_cons (pe_ix ix_U (pv 3) pe_int (fun _ _ => rfl)) (pa_cons (pv 4) (pa_cons (pe_ix ix_U (pv 3) pe_int (fun _ _ => rfl)) (pa_cons (pe_cal C_second_sign hr rfl (pa_cons (pv 3) pa_nil)) pa_nil))))) pa_nil)))))))
    (pss_one (ps_ret (pv 1))))), ?_⟩
  rw [show start ["web", "told", "place", "deed", "thing"] [.ref x] = [some (.ref x), none, none, none, none] from rfl]
  try walk_at "WP"
  intro r hr0
  have sr := same_new hr0 (.lst [])
  have W1 := W.same sr
  have h1 := W1.tup
  (iterate 5 ((try (walk_at "WP")); (try (simp only [h1, Option.some.injEq, HO.tup.injEq, HO.lst.injEq, HO.dK.injEq, exists_eq_left', exists_eq_left])))); (try (walk_at "WP"))
  refine ⟨_, SqL.of W1.dll, ?_⟩
  refine forE (xs := us) (fun i σ H1 => ∃ (o2 o3 o4 : Option V) (ws : List V), σ = [some (.ref x), some (.ref r), o2, o3, o4] ∧ Same H H1 ∧ H1 r = some (.lst ws) ∧ HTs aTup H1 ws (arrF ins 0 (ds.take i))) ⟨none, none, none, [], rfl, sr, upd_same, hts_nil⟩ ?_ ?_ ?_
  · rintro i σ H1 _ ⟨_, _, _, _, _, s1, _⟩
    exact SqL.of (s1 _ _ W.dll)
  · rintro i v t σ H1 N hv ht ⟨o2, o3, o4, ws, rfl, s1, hr1, ha⟩ hN
    have hi : i < ds.length := by rw [← W.hds.len]; exact (List.getElem?_eq_some_iff.mp hv).1
    obtain ⟨y, hy1, hy2⟩ := W.hds.at_ i _ (List.getElem?_eq_getElem hi)
    have hdi : ds[i]? = some ds[i] := List.getElem?_eq_getElem hi
    generalize ds[i] = d at hy2 hdi
    rw [hv] at hy1
    cases hy1
    have st := same_new ht (.tup [V.int (i : Int), .ref y])
    have W2 := (W.same s1).same st
    have h2 := W2.tup
    have hy3 : upd H1 t (.tup [V.int (i : Int), .ref y]) y = some (.tup (wTup d)) := st _ _ (s1 _ _ hy2)
    have hr2 := st _ _ hr1
    have ha2 := ha.same st
    have s2 := s1.trans st
    have h9 : upd H1 t (.tup [V.int (i : Int), .ref y]) t = some (.tup [V.int (i : Int), .ref y]) := upd_same
    generalize upd H1 t (.tup [V.int (i : Int), .ref y]) = H2 at *
    have hy3' := hy3
    unfold wTup at hy3'
    (iterate 5 ((try (walk_at "WP")); (try (simp only [h9, h2, hy3', Option.some.injEq, HO.tup.injEq, HO.lst.injEq, HO.dK.injEq, exists_eq_left', exists_eq_left])))); (try (walk_at "WP"))
    have hwl : ws.length = 2 * i := by rw [ha2.len, arrF_len, List.length_take]; omega
    refine ⟨ty_list hr2, fun p1 hp1 => ?_⟩
    have s3 := same_new hp1 (.tup [V.int (d.a : Int), V.int ((ins : Int) + (i : Int)), V.int d.s, V.int 1])
    have n1 : r ≠ p1 := ne_of_none hr2 hp1
    refine ⟨ws, by rw [upd_ne n1]; exact hr2, Nat.lt_of_lt_of_le (by omega : ws.length < 1000) (le_size (by decide)), ty_list upd_same, ?_⟩
    have hr3 := s3 _ _ hr2
    have ha3 := (ha2.same s3).chgL hr3 (Chg.upd (.lst (ws ++ [.ref p1])))
    have hp1t : (upd (upd H2 p1 (.tup [V.int (d.a : Int), V.int ((ins : Int) + (i : Int)), V.int d.s, V.int 1])) r (.lst (ws ++ [.ref p1]))) p1 = some (.tup (aTup ⟨d.a, ins + i, d.s, 1⟩)) := by
      rw [upd_ne n1.symm, upd_same]
      unfold aTup
      rw [show ((ins + i : Nat) : Int) = (ins : Int) + (i : Int) by omega]
    have ha4 := ha3.snoc (x := (⟨d.a, ins + i, d.s, 1⟩ : Ar)) hp1t
    have hy4 : (upd (upd H2 p1 (.tup [V.int (d.a : Int), V.int ((ins : Int) + (i : Int)), V.int d.s, V.int 1])) r (.lst (ws ++ [.ref p1]))) y = some (.tup (wTup d)) := by
      rw [upd_ne (ne_of hy3 hr2 (by intro z; cases z))]
      exact s3 _ _ hy3
    have s4 : Same H (upd (upd H2 p1 (.tup [V.int (d.a : Int), V.int ((ins : Int) + (i : Int)), V.int d.s, V.int 1])) r (.lst (ws ++ [.ref p1]))) := same_upd hr0 (s2.trans s3)
    have hr4 : (upd (upd H2 p1 (.tup [V.int (d.a : Int), V.int ((ins : Int) + (i : Int)), V.int d.s, V.int 1])) r (.lst (ws ++ [.ref p1]))) r = some (.lst (ws ++ [.ref p1])) := upd_same
    generalize upd (upd H2 p1 (.tup [V.int (d.a : Int), V.int ((ins : Int) + (i : Int)), V.int d.s, V.int 1])) r (.lst (ws ++ [.ref p1])) = H3 at s4 hr4 hy4 ha4 ⊢
    refine ⟨_, hy4, _, rfl, _, hy4, _, rfl, y, d, rfl, hy4, fun p2 hp2 => ?_⟩
    have s5 := same_new hp2 (.tup [V.int (d.b : Int), V.int ((ins : Int) + (i : Int)), V.int d.t, V.int (sgW d.w)])
    have n2 : r ≠ p2 := ne_of_none hr4 hp2
    refine ⟨_, by rw [upd_ne n2]; exact hr4, Nat.lt_of_lt_of_le (by simp; omega : (ws ++ [V.ref p1]).length < 1000) (le_size (by decide)), ?_⟩
    have hr5 := s5 _ _ hr4
    have hp2t : (upd (upd H3 p2 (.tup [V.int (d.b : Int), V.int ((ins : Int) + (i : Int)), V.int d.t, V.int (sgW d.w)])) r (.lst (ws ++ [.ref p1] ++ [.ref p2]))) p2 = some (.tup (aTup ⟨d.b, ins + i, d.t, sgW d.w⟩)) := by
      rw [upd_ne n2.symm, upd_same]
      unfold aTup
      rw [show ((ins + i : Nat) : Int) = (ins : Int) + (i : Int) by omega]
    have ha5 := ((ha4.same s5).chgL hr5 (Chg.upd (.lst (ws ++ [.ref p1] ++ [.ref p2])))).snoc (x := (⟨d.b, ins + i, d.t, sgW d.w⟩ : Ar)) hp2t
    refine hN _ _ ⟨_, _, _, _, rfl, same_upd hr0 (s4.trans s5), upd_same, ?_⟩
    have tk : ds.take (i + 1) = ds.take i ++ [d] := by rw [List.take_add_one, hdi]; rfl
    rw [tk, arrF_app, List.length_take, Nat.min_eq_left (by omega), Nat.zero_add, show arrF ins i [d] = [(⟨d.a, ins + i, d.s, 1⟩ : Ar)] ++ [(⟨d.b, ins + i, d.t, sgW d.w⟩ : Ar)] from rfl, ← List.append_assoc]
    exact ha5
  · rintro σ H1 ⟨o2, o3, o4, ws, rfl, s1, hr1, ha⟩
    try walk_at "WP"
    rw [W.hds.len, List.take_length] at ha
    exact q r ws H1 hr0 s1 hr1 ha
end

section
variable {P : Program} {w : World} {K : PySem.W.Frag} {mg : Str → Option Value} {base : Heap}
theorem ok_count (T : Txt K mg) : Cal P w K mg base 1 "thing_count" ["web"] spCnt := by
  have B := T.bl
  refine mkCal T.t_thing_count sc_thing_count (fun vs H Q E h => ?_) (fun f cdv A outer s H vs Q E hr h => ?_)
  · obtain ⟨x, _, _, _, _, _, _, _, rfl, _⟩ := h
    rfl
  obtain ⟨x, dl, gl, ins, us, ds, os, gs, rfl, W, q⟩ := h
  refine ⟨_, (pss_one (ps_ret (pe_op op_add (pe_ix ix_U (pv 0) pe_int (fun _ _ => rfl)) (pe_callB call_lenM rfl B.len bo_len (pa_cons (pe_ix ix_U (pv 0) pe_int (fun _ _ => rfl)) pa_nil))))), ?_⟩
  rw [show start ["web"] [.ref x] = [some (.ref x)] from rfl]
  have h1 := W.tup
  have h2 := W.dll
  (iterate 5 ((try (walk_at "WP")); (try (simp only [h1, h2, Option.some.injEq, HO.tup.injEq, HO.lst.injEq, HO.dK.injEq, exists_eq_left', exists_eq_left])))); (try (walk_at "WP"))
  rw [W.hds.len]
  exact q
end

section
variable {P : Program} {w : World} {K : PySem.W.Frag} {mg : Str → Option Value} {base : Heap}
theorem ok_whole (T : Txt K mg) : Cal P w K mg base 1 "_law_whole" ["_law_thing"] spWhole := by
  have B := T.bl
  refine mkCal T.t_l_whole sc_l_whole (fun vs H Q E h => ?_) (fun f cdv A outer s H vs Q E hr h => ?_)
  · obtain ⟨n, rfl, _⟩ := h
    rfl
  obtain ⟨n, rfl, q⟩ := h
  refine ⟨_, (pss_one (ps_ret (pe_and (pe_callB call_isI rfl B.isinstance bo_isinstance (pa_cons (pv 0) (pa_cons (pe_bltn (v := .ty "int") rfl B.int bo_int rfl) pa_nil))) (pe_one (pe_not (pe_callB call_isI rfl B.isinstance bo_isinstance (pa_cons (pv 0) (pa_cons (pe_bltn (v := .ty "bool") rfl B.bool bo_bool rfl) pa_nil)))))))), ?_⟩
  rw [show start ["_law_thing"] [.int n] = [some (.int n)] from rfl]
  try walk_at "WP"
  exact q
end

section
variable {P : Program} {w : World} {K : PySem.W.Frag} {mg : Str → Option Value} {base : Heap}
theorem ok_depths (T : Txt K mg) : Cal P w K mg base 3 "depths" ["web"] spDepths := by
  have B := T.bl
  have C_deed_arrows := ok_darr (P := P) (w := w) (base := base) T
  have C_thing_count := (ok_count (P := P) (w := w) (base := base) T).mono (k := 2) (by decide)
  refine mkCal T.t_depths sc_depths (fun vs H Q E h => ?_) (fun f cdv A outer s H vs Q E hr h => ?_)
  · obtain ⟨_, _, _, _, _, _, _, _, rfl, _⟩ := h
    rfl
  obtain ⟨x, dl, gl, ins, us, ds, os, gs, rfl, W, hD, d60, i12, q⟩ := h
  refine ⟨_, (pss_cons (ps_setCompC (ix := 1) (N := ["thing"]) (nt := 1) (cs := []) rfl (pi_range1 rfl B.range (pa_cons (pe_cal C_thing_count hr rfl (pa_cons (pv 0) pa_nil)) pa_nil)) (fun nd C s H fp => ⟨(pg_name (i := 0) nd rfl (by first | exact Or.inl rfl | exact Or.inr rfl)), pn_nil, pe_int⟩) (by decide +kernel) (by first | rfl | decide +kernel) (by first | rfl | decide +kernel) rfl (fun _ => rfl) sc_depths.nd rfl (by first | exact Or.inl rfl | exact Or.inr rfl) (by first | exact .inl rfl | exact .inr rfl) rfl)
    (pss_cons (ps_for PassesOwn.never rfl (pi_list (pe_cal C_deed_arrows hr rfl (pa_cons (pv 0) pa_nil))) (pg_tupM 4 rfl (pgs_cons (pg_name (i := 2) sc_depths.nd rfl (by first | exact Or.inl rfl | exact Or.inr rfl)) (pgs_cons (pg_name (i := 3) sc_depths.nd rfl (by first | exact Or.inl rfl | exact Or.inr rfl)) (pgs_cons (pg_name (i := 4) sc_depths.nd rfl (by first | exact Or.inl rfl | exact Or.inr rfl)) (pgs_cons (pg_name (i := 5) sc_depths.nd rfl (by first | exact Or.inl rfl | exact Or.inr rfl)) pgs_nil))))) (pss_one (ps_asg (pe_callB (call_max2 rfl) rfl B.max bo_max (pa_cons (pe_ix ix_M (pv 1) (pv 3) (fun _ _ => rfl)) (pa_cons (pe_op op_add (pe_ix ix_M (pv 1) (pv 2) (fun _ _ => rfl)) pe_int) pa_nil))) (pg_sub (pv 1) (pv 3) set_list))))
    (pss_one (ps_ret (pv 1))))), ?_⟩
  rw [show start ["web", "told", "start", "goal", "shift", "sign"] [.ref x] = [some (.ref x), none, none, none, none, none] from rfl]
  try walk_at "WP"
  refine ⟨x, dl, gl, ins, us, ds, os, gs, rfl, W, ?_⟩
  try walk_at "WP"
  refine ⟨by omega, by omega, ?_⟩
  have ezg : ∀ (ys : List V), (ys.filterMap fun _ => some (V.int 0)) = (List.replicate ys.length (0 : Int)).map V.int := fun ys => by
    rw [List.map_replicate]
    induction ys with
    | nil => rfl
    | cons a r ih => rw [List.filterMap_cons]; simp only [ih]; rfl
  rw [show ((ins : Int) + (ds.length : Int)).toNat = ins + ds.length by omega]
  refine comp_R (f := fun _ => some (V.int 0)) (le_size (by omega)) (fun y H5 R5 hy s5 hR5 => ?_) (fun r hr0 => ?_)
  · try walk_at "WP"
    exact hR5
  rw [ezg, rngV_len]
  have sr := same_new hr0 (.lst ((List.replicate (ins + ds.length) (0 : Int)).map V.int))
  have hrr : upd H r (.lst ((List.replicate (ins + ds.length) (0 : Int)).map V.int)) r = some (.lst ((tG gDe 0 (List.replicate ins 0) ds 0).map V.int)) := by
    rw [upd_same]
    show _ = some (HO.lst ((List.replicate ins (0 : Int) ++ List.replicate ds.length 0).map V.int))
    rw [List.replicate_append_replicate]
  generalize upd H r (.lst ((List.replicate (ins + ds.length) (0 : Int)).map V.int)) = H3 at sr hrr ⊢
  try walk_at "WP"
  refine ⟨x, dl, gl, ins, us, ds, os, gs, rfl, W.same sr, by omega, fun al ws H4 na s4 ha4 hts => ?_⟩
  try walk_at "WP"
  refine ⟨⟨_, SqL.of ha4⟩, ?_⟩
  have alr : al ≠ r := (ne_of_none hrr na).symm
  have xl : (List.replicate ins (0 : Int)).length = ins := List.length_replicate
  have dk2 : ∀ (k : Nat) (d : Wd), ds[k]? = some d → d.a < (List.replicate ins (0 : Int)).length + k ∧ d.b < (List.replicate ins (0 : Int)).length + k := fun k d hd => by
    rw [xl]
    exact hD k d hd
  refine forL (xs := ws) (fun i σ H5 => ∃ (o3 o4 o5 o6 : Option V), σ = [some (.ref x), some (.ref r), o3, o4, o5, o6] ∧ H5 r = some (.lst ((tG gDe 0 (List.replicate ins 0) ds i).map V.int)) ∧ Chg r H4 H5) ⟨none, none, none, none, rfl, s4 _ _ hrr, fun _ _ _ z => z⟩ ?_ ?_ ?_
  · rintro i σ H5 _ ⟨_, _, _, _, _, _, c5⟩
    exact SqL.of (c5 _ _ alr ha4)
  · rintro i y σ H5 N hy ⟨o3, o4, o5, o6, rfl, hr5, c5⟩ hN
    have hi : i < (arrF ins 0 ds).length := by rw [← hts.len]; exact (List.getElem?_eq_some_iff.mp hy).1
    obtain ⟨p, hp1, hp2⟩ := hts.at_ i _ (List.getElem?_eq_getElem hi)
    have hai : (arrF ins 0 ds)[i]? = some (arrF ins 0 ds)[i] := List.getElem?_eq_getElem hi
    generalize (arrF ins 0 ds)[i] = a at hp2 hai
    rw [hy] at hp1
    cases hp1
    have hp5 := c5 _ _ (ne_of hp2 (s4 _ _ hrr) (by intro z; cases z)) hp2
    unfold aTup at hp5
    obtain ⟨u, z, e1, e2, e3, ⟨d, hd, e4⟩, e5, e6⟩ := tG_step (g := gDe) (z := 0) dk2 (by rw [xl]; exact hai)
    have a1 : atI ((tG gDe 0 (List.replicate ins 0) ds i).map V.int) (a.st : Int) = some (.int u) := atI_nat (by rw [List.getElem?_map, e1]; rfl)
    have a2 : atI ((tG gDe 0 (List.replicate ins 0) ds i).map V.int) (a.go : Int) = some (.int z) := atI_nat (by rw [List.getElem?_map, e2]; rfl)
    (iterate 5 ((try (walk_at "WP")); (try (simp only [hp5, hr5, Option.some.injEq, HO.tup.injEq, HO.lst.injEq, HO.dK.injEq, exists_eq_left', exists_eq_left])))); (try (walk_at "WP"))
    refine ⟨_, a2, _, a1, ?_⟩
    (iterate 5 ((try (walk_at "WP")); (try (simp only [hr5, Option.some.injEq, HO.tup.injEq, HO.lst.injEq, HO.dK.injEq, exists_eq_left', exists_eq_left])))); (try (walk_at "WP"))
    refine ⟨_, _, ⟨rfl, rfl⟩, ?_⟩
    have hgl : a.go < (tG gDe 0 (List.replicate ins 0) ds i).length := (List.getElem?_eq_some_iff.mp e2).1
    (iterate 5 ((try (walk_at "WP")); (try (simp only [hr5, Option.some.injEq, HO.tup.injEq, HO.lst.injEq, HO.dK.injEq, exists_eq_left', exists_eq_left])))); (try (walk_at "WP"))
    refine ⟨a.go, by rw [List.length_map]; exact ixN_nat hgl, ?_⟩
    have em : (if u + 1 > z then u + 1 else z) = gDe z a.sh a.sg u := by
      show _ = max z (u + 1)
      split <;> omega
    rw [em, set_mapI, e6]
    exact hN _ _ ⟨_, _, _, _, rfl, upd_same, c5.trans (Chg.upd _)⟩
  · rintro σ H5 ⟨_, _, _, _, rfl, hr5, c5⟩
    try walk_at "WP"
    rw [hts.len, arrF_len, tG_end] at hr5
    exact q r H5 hr0 (fun b o hb => c5 _ _ (ne_of_none hb hr0) (s4 _ _ (sr _ _ hb))) hr5
theorem ok_depth (T : Txt K mg) : Cal P w K mg base 4 "depth" ["web"] spDepth := by
  have B := T.bl
  have C_depths := ok_depths (P := P) (w := w) (base := base) T
  refine mkCal T.t_depth sc_depth (fun vs H Q E h => ?_) (fun f cdv A outer s H vs Q E hr h => ?_)
  · obtain ⟨_, _, _, _, _, _, _, _, rfl, _⟩ := h
    rfl
  obtain ⟨x, dl, gl, ins, us, ds, os, gs, rfl, W, hD, d60, i12, g12, gk, q⟩ := h
  refine ⟨_, (pss_cons (ps_set (i := 1) sc_depth.nd rfl (by first | exact Or.inl rfl | exact Or.inr rfl) (pe_cal C_depths hr rfl (pa_cons (pv 0) pa_nil)))
    (pss_one (ps_ret (pe_maxD rfl rfl B.max (pa_cons (pe_compC (N := ["thing", "shift", "sign", "told"]) (nt := 3) (cs := [1]) rfl (pi_list (pe_ix ix_U (pv 0) pe_int (fun _ _ => rfl))) (fun nd C s H fp => ⟨(pg_tupM 3 rfl (pgs_cons (pg_name (i := 0) nd rfl (by first | exact Or.inl rfl | exact Or.inr rfl)) (pgs_cons (pg_name (i := 1) nd rfl (by first | exact Or.inl rfl | exact Or.inr rfl)) (pgs_cons (pg_name (i := 2) nd rfl (by first | exact Or.inl rfl | exact Or.inr rfl)) pgs_nil)))), (pn_one (pt_cmpR op_ne (pv 2) pe_int (nomark _))), (pe_ix ix_M (pv 3) (pv 0) (fun _ _ => rfl))⟩) (by decide +kernel) (by first | rfl | decide +kernel) (by first | rfl | decide +kernel) rfl (fun _ => rfl)) pa_nil) (pk_cons pe_int pk_nil))))), ?_⟩
  rw [show start ["web", "told"] [.ref x] = [some (.ref x), none] from rfl]
  try walk_at "WP"
  refine ⟨x, dl, gl, ins, us, ds, os, gs, rfl, W, hD, d60, i12, fun r H1 nr s1 hr1 => ?_⟩
  have h1 := s1 _ _ W.tup
  (iterate 5 ((try (walk_at "WP")); (try (simp only [h1, Option.some.injEq, HO.tup.injEq, HO.lst.injEq, HO.dK.injEq, exists_eq_left', exists_eq_left])))); (try (walk_at "WP"))
  refine ⟨⟨_, SqL.of (s1 _ _ W.gll)⟩, ?_⟩
  refine comp_goals (s1 _ _ W.gll) (W.hgs.same s1) (by omega) (fun g => if g.sg ≠ 0 then some (V.int ((dpW ins ds).getD g.th 0)) else none) (fun g H' R hg s' hR => ?_) (fun acc H2 na s2 ha => ?_)
  · rw [show capV [1] [some (V.ref x), some (V.ref r)] = [some (.ref r)] from rfl]
    have hr2 := s' _ _ hr1
    rw [List.cons_append, List.cons_append, List.cons_append, List.nil_append]
    (iterate 5 ((try (walk_at "WP")); (try (simp only [hr2, Option.some.injEq, HO.tup.injEq, HO.lst.injEq, HO.dK.injEq, exists_eq_left', exists_eq_left])))); (try (walk_at "WP"))
    refine ite2 (fun z => ?_) (fun z => ?_)
    · rw [if_pos z] at hR
      have e := List.getElem?_eq_getElem (l := dpW ins ds) (i := g.th) (by rw [dpW_len]; exact gk g hg)
      refine ⟨_, atI_nat (by rw [List.getElem?_map, e]; rfl), ?_⟩
      rw [getD_of e] at hR
      exact hR
    · rw [if_neg z] at hR
      exact hR
  have e : gs.filterMap (fun g => if g.sg ≠ 0 then some (V.int ((dpW ins ds).getD g.th 0)) else none) = (goD (dpW ins ds) gs).map V.int := by
    unfold goD
    clear ha gk hD W q g12
    induction gs with
    | nil => rfl
    | cons g r ih =>
      rw [List.filterMap_cons, ih]
      by_cases z : g.sg ≠ 0
      · rw [if_pos z, List.filter_cons_of_pos (by simpa using z)]
        rfl
      · rw [if_neg z, List.filter_cons_of_neg (by simpa using z)]
  rw [e] at ha
  try walk_at "WP"
  refine ⟨goD (dpW ins ds) gs, ha, fun n hn => ?_, q _ (s1.trans s2)⟩
  obtain ⟨g, _, rfl⟩ := List.mem_map.mp hn
  exact dp_nn g.th
theorem ok_layers (T : Txt K mg) : Cal P w K mg base 4 "layers" ["web"] spLayers := by
  have B := T.bl
  have C_depths := ok_depths (P := P) (w := w) (base := base) T
  refine mkCal T.t_layers sc_layers (fun vs H Q E h => ?_) (fun f cdv A outer s H vs Q E hr h => ?_)
  · obtain ⟨_, _, _, _, _, _, _, _, rfl, _⟩ := h
    rfl
  obtain ⟨x, dl, gl, ins, us, ds, os, gs, rfl, W, hD, d60, i1, i12, q⟩ := h
  have ml : mz (dpW ins ds) ≤ 60 := by
    have hne : dpW ins ds ≠ [] := fun z => by
      have := congrArg List.length z
      rw [dpW_len] at this
      simp at this
      omega
    have := mz_mem hne dpW_nn
    obtain ⟨j, hj⟩ := List.getElem?_of_mem this
    have jl := (List.getElem?_eq_some_iff.mp hj).1
    rw [dpW_len] at jl
    have h2 := dp_le hD ds.length (Nat.le_refl _) j jl
    rw [getD_of hj] at h2
    omega
  have m0 := mz_nonneg (dpW ins ds)
  refine ⟨_, (pss_cons (ps_set (i := 1) sc_layers.nd rfl (by first | exact Or.inl rfl | exact Or.inr rfl) (pe_cal C_depths hr rfl (pa_cons (pv 0) pa_nil)))
    (pss_cons (ps_setCompC (ix := 2) (N := ["layer"]) (nt := 1) (cs := []) rfl (pi_range1 rfl B.range (pa_cons (pe_op op_add (pe_callB (call_max1 rfl) rfl B.max bo_max (pa_cons (pv 1) pa_nil)) pe_int) pa_nil)) (fun nd C s H fp => ⟨(pg_name (i := 0) nd rfl (by first | exact Or.inl rfl | exact Or.inr rfl)), pn_nil, (pe_lst pa_nil)⟩) (by decide +kernel) (by first | rfl | decide +kernel) (by first | rfl | decide +kernel) rfl (fun _ => rfl) sc_layers.nd rfl (by first | exact Or.inl rfl | exact Or.inr rfl) (by first | exact .inl rfl | exact .inr rfl) rfl)
    (pss_cons (ps_for PassesOwn.never rfl (pi_enum rfl B.enumerate (pa_cons (pv 1) pa_nil)) (pg_tupM 2 rfl (pgs_cons (pg_name (i := 3) sc_layers.nd rfl (by first | exact Or.inl rfl | exact Or.inr rfl)) (pgs_cons (pg_name (i := 4) sc_layers.nd rfl (by first | exact Or.inl rfl | exact Or.inr rfl)) pgs_nil))) (pss_one (ps_expr (pe_bm PySem.F.plainAttrs_list PySem.F.slot_list_append PySem.F.type_list_append mt_append (pe_ix ix_M (pv 2) (pv 4) (fun _ _ => rfl)) (pa_cons (pv 3) pa_nil)))))
    (pss_one (ps_ret (pv 2)))))), ?_⟩
  rw [show start ["web", "deep", "told", "thing", "layer"] [.ref x] = [some (.ref x), none, none, none, none] from rfl]
  try walk_at "WP"
  refine ⟨x, dl, gl, ins, us, ds, os, gs, rfl, W, hD, d60, i12, fun r H1 nr s1 hr1 => ?_⟩
  try walk_at "WP"
  refine ⟨r, dpW ins ds, rfl, hr1, ?_, dpW_nn, ?_⟩
  · intro z
    have := congrArg List.length z
    rw [dpW_len] at this
    simp at this
    omega
  try walk_at "WP"
  refine ⟨by omega, by omega, ?_⟩
  rw [show (mz (dpW ins ds) + 1).toNat = nLay (dpW ins ds) by unfold nLay; omega]
  have nl : nLay (dpW ins ds) ≤ 61 := by unfold nLay; omega
  refine comp_rowsD (by omega) (fun _ => []) (fun i H' R hi s' hR => ?_) (fun t ps H2 nt np s2 L2 => ?_)
  · try walk_at "WP"
    exact fun l nl => hR l _ nl (same_new nl _) upd_same
  try walk_at "WP"
  refine ⟨_, SqL.of (s2 _ _ hr1), ?_⟩
  have e0 : (List.range (nLay (dpW ins ds))).map (fun _ => ([] : List Int)) = layRs (dpW ins ds) (nLay (dpW ins ds)) 0 := by
    unfold layRs layR
    rfl
  rw [e0] at L2
  have npH : ∀ p ∈ ps, H p = none := fun p hp => s1.free (np p hp)
  have ntr : t ≠ r := (ne_of_none hr1 nt).symm
  refine forE (xs := (dpW ins ds).map V.int) (fun i σ H3 => ∃ (o3 o4 : Option V), σ = [some (.ref x), some (.ref r), some (.ref t), o3, o4] ∧ Same H H3 ∧ H3 r = some (.lst ((dpW ins ds).map V.int)) ∧ LDp H3 t ps (layRs (dpW ins ds) (nLay (dpW ins ds)) i)) ⟨none, none, rfl, s1.trans s2, s2 _ _ hr1, L2⟩ ?_ ?_ ?_
  · rintro i σ H3 _ ⟨_, _, _, _, h3, _⟩
    exact SqL.of h3
  · rintro i v tp σ H3 N hv htp ⟨o3, o4, rfl, s3, hr3, L3⟩ hN
    obtain ⟨m, hm, rfl⟩ := map_at hv
    have mb : m ∈ dpW ins ds := List.mem_of_getElem? hm
    have m1 := dpW_nn m mb
    have m2 := mz_ge mb
    obtain ⟨k, rfl⟩ := Int.eq_ofNat_of_zero_le m1
    have kl : k < nLay (dpW ins ds) := by unfold nLay; omega
    have ed : (dpW ins ds).getD i 0 = (k : Int) := getD_of hm
    have pl : ps.length = nLay (dpW ins ds) := by rw [L3.len]; unfold layRs; rw [List.length_map, List.length_range]
    have ep := List.getElem?_eq_getElem (l := ps) (i := k) (by omega)
    generalize ps[k] = p at ep
    have er : (layRs (dpW ins ds) (nLay (dpW ins ds)) i)[k]? = some (layR (dpW ins ds) i k) := by
      unfold layRs
      rw [List.getElem?_map, List.getElem?_range kl]
      rfl
    have st := same_new htp (.tup [V.int (i : Int), V.int (k : Int)])
    have h9 : upd H3 tp (.tup [V.int (i : Int), V.int (k : Int)]) tp = some (.tup [V.int (i : Int), V.int (k : Int)]) := upd_same
    have L3 := L3.same st
    have hr3 := st _ _ hr3
    have s3 := s3.trans st
    generalize upd H3 tp (.tup [V.int (i : Int), V.int (k : Int)]) = H3 at *
    have hp3 := L3.at_ k p _ ep er
    have hl3 := L3.lst
    have pm := List.mem_of_getElem? ep
    have pr : p ≠ r := fun z => by
      have := np p pm
      rw [z, hr1] at this
      cases this
    (iterate 5 ((try (walk_at "WP")); (try (simp only [h9, hl3, Option.some.injEq, HO.tup.injEq, HO.lst.injEq, HO.dK.injEq, exists_eq_left', exists_eq_left])))); (try (walk_at "WP"))
    refine ⟨_, atI_nat (by rw [List.getElem?_map, ep]; rfl), ?_⟩
    try walk_at "WP"
    refine ⟨ty_list hp3, _, hp3, ?_, ?_⟩
    · rw [List.length_map]
      have h1 := List.length_filter_le (fun j => decide ((dpW ins ds).getD j 0 = (k : Int))) (List.range i)
      have h2 : (layR (dpW ins ds) i k).length ≤ (List.range i).length := by unfold layR; rw [List.length_map]; exact h1
      rw [List.length_range] at h2
      have h3 := (List.getElem?_eq_some_iff.mp hm).1
      rw [dpW_len] at h3
      exact lt_big (by omega)
    · have L4 := L3.app (x := (i : Int)) ep er
      rw [layRs_set ed kl] at L4
      exact hN _ _ ⟨_, _, rfl, same_chg (npH p pm) s3 (Chg.upd _), by rw [upd_ne pr.symm]; exact hr3, L4⟩
  · rintro σ H3 ⟨o3, o4, rfl, s3, hr3, L3⟩
    rw [List.length_map, dpW_len] at L3
    try walk_at "WP"
    exact q t ps H3 (s1.free nt) npH s3 L3
end

section
variable {P : Program} {w : World} {K : PySem.W.Frag} {mg : Str → Option Value} {base : Heap}
theorem ok_reach (T : Txt K mg) : Cal P w K mg base 1 "_law_reached" ["_law_web_here"] spDepths := by
  have B := T.bl
  refine mkCal T.t_l_reached sc_l_reached (fun vs H Q E h => ?_) (fun f cdv A outer s H vs Q E hr h => ?_)
  · obtain ⟨_, _, _, _, _, _, _, _, rfl, _⟩ := h
    rfl
  obtain ⟨x, dl, gl, ins, us, ds, os, gs, rfl, W, hD, d60, i12, q⟩ := h
  have h1 := W.tup
  have h2 := W.dll
  have ul := W.hds.len
  refine ⟨_, (pss_cons (ps_asg (pv 0) (pg_tupM 3 rfl (pgs_cons (pg_name (i := 1) sc_l_reached.nd rfl (by first | exact Or.inl rfl | exact Or.inr rfl)) (pgs_cons (pg_name (i := 2) sc_l_reached.nd rfl (by first | exact Or.inl rfl | exact Or.inr rfl)) (pgs_cons (pg_name (i := 3) sc_l_reached.nd rfl (by first | exact Or.inl rfl | exact Or.inr rfl)) pgs_nil)))))
    (pss_cons (ps_setCompC (ix := 4) (N := ["_law_k"]) (nt := 1) (cs := []) rfl (pi_range1 rfl B.range (pa_cons (pe_op op_add (pv 1) (pe_callB call_lenM rfl B.len bo_len (pa_cons (pv 2) pa_nil))) pa_nil)) (fun nd C s H fp => ⟨(pg_name (i := 0) nd rfl (by first | exact Or.inl rfl | exact Or.inr rfl)), pn_nil, pe_int⟩) (by decide +kernel) (by first | rfl | decide +kernel) (by first | rfl | decide +kernel) rfl (fun _ => rfl) sc_l_reached.nd rfl (by first | exact Or.inl rfl | exact Or.inr rfl) (by first | exact .inl rfl | exact .inr rfl) rfl)
    (pss_cons (ps_for PassesOwn.never rfl (pi_range1 rfl B.range (pa_cons (pe_op op_add (pe_callB call_lenM rfl B.len bo_len (pa_cons (pv 2) pa_nil)) pe_int) pa_nil)) (pg_name (i := 5) sc_l_reached.nd rfl (by first | exact Or.inl rfl | exact Or.inr rfl)) (pss_one (ps_for PassesOwn.never rfl (pi_rangeD rfl B.range (pa_cons (pe_op op_sub (pe_callB call_lenM rfl B.len bo_len (pa_cons (pv 2) pa_nil)) pe_int) (pa_cons (pe_un un_neg pe_int) (pa_cons (pe_un un_neg pe_int) pa_nil)))) (pg_name (i := 6) sc_l_reached.nd rfl (by first | exact Or.inl rfl | exact Or.inr rfl)) (pss_cons (ps_asg (pe_ix ix_M (pv 2) (pv 6) (fun _ _ => rfl)) (pg_tupM 5 rfl (pgs_cons (pg_name (i := 7) sc_l_reached.nd rfl (by first | exact Or.inl rfl | exact Or.inr rfl)) (pgs_cons (pg_name (i := 8) sc_l_reached.nd rfl (by first | exact Or.inl rfl | exact Or.inr rfl)) (pgs_cons (pg_name (i := 9) sc_l_reached.nd rfl (by first | exact Or.inl rfl | exact Or.inr rfl)) (pgs_cons (pg_name (i := 10) sc_l_reached.nd rfl (by first | exact Or.inl rfl | exact Or.inr rfl)) (pgs_cons (pg_name (i := 11) sc_l_reached.nd rfl (by first | exact Or.inl rfl | exact Or.inr rfl)) pgs_nil)))))))
    (pss_one (ps_for PassesOwn.never rfl (pi_tup (pe_tup (pa_cons (pv 8) (pa_cons (pv 10) pa_nil)))) (pg_name (i := 12) sc_l_reached.nd rfl (by first | exact Or.inl rfl | exact Or.inr rfl)) (pss_one (ps_if (pt_cmpR op_lt (pe_ix ix_M (pv 4) (pe_op op_add (pv 1) (pv 6)) (fun _ _ => rfl)) (pe_op op_add (pe_ix ix_M (pv 4) (pv 12) (fun _ _ => rfl)) pe_int) (nomark _)) (pss_one (ps_asg (pe_op op_add (pe_ix ix_M (pv 4) (pv 12) (fun _ _ => rfl)) pe_int) (pg_sub (pv 4) (pe_op op_add (pv 1) (pv 6)) set_list))) pss_nil))))))))
    (pss_one (ps_ret (pv 4)))))), ?_⟩
  rw [show start ["_law_web_here", "_law_ins", "_law_deeds", "_law_outs", "_law_far", "_law_turn", "_law_k", "_law_word", "_law_a", "_law_s", "_law_b", "_law_t", "_law_thing"] [.ref x] = [some (.ref x), none, none, none, none, none, none, none, none, none, none, none, none] from rfl]
  (iterate 5 ((try (walk_at "WP")); (try (simp only [h1, h2, Option.some.injEq, HO.tup.injEq, HO.lst.injEq, HO.dK.injEq, exists_eq_left', exists_eq_left])))); (try (walk_at "WP"))
  refine ⟨by omega, by omega, ?_⟩
  rw [show ((ins : Int) + (us.length : Int)).toNat = ins + ds.length by omega]
  have ezg : ∀ (ys : List V), (ys.filterMap fun _ => some (V.int 0)) = (List.replicate ys.length (0 : Int)).map V.int := fun ys => by
    rw [List.map_replicate]
    induction ys with
    | nil => rfl
    | cons a r ih => rw [List.filterMap_cons]; simp only [ih]; rfl
  refine comp_R (f := fun _ => some (V.int 0)) (le_size (by omega)) (fun y H5 R5 hy s5 hR5 => ?_) (fun r nr => ?_)
  · try walk_at "WP"
    exact hR5
  rw [ezg, rngV_len]
  have sr := same_new nr (.lst ((List.replicate (ins + ds.length) (0 : Int)).map V.int))
  have hrr : upd H r (.lst ((List.replicate (ins + ds.length) (0 : Int)).map V.int)) r = some (.lst ((List.replicate (ins + ds.length) (0 : Int)).map V.int)) := upd_same
  generalize upd H r (.lst ((List.replicate (ins + ds.length) (0 : Int)).map V.int)) = H1 at sr hrr ⊢
  have h3 := sr _ _ h2
  (iterate 5 ((try (walk_at "WP")); (try (simp only [h3, Option.some.injEq, HO.tup.injEq, HO.lst.injEq, HO.dK.injEq, exists_eq_left', exists_eq_left])))); (try (walk_at "WP"))
  refine ⟨by omega, by omega, ?_⟩
  rw [show ((us.length : Int) + 1).toNat = ds.length + 1 by omega]
  refine forR (fun j σ H2 => ∃ (far : List Int) (o5 o6 o7 o8 o9 o10 o11 o12 : Option V), σ = [some (.ref x), some (.int ins), some (.ref dl), some (.ref gl), some (.ref r), o5, o6, o7, o8, o9, o10, o11, o12] ∧ Same H H2 ∧ H2 r = some (.lst (far.map V.int)) ∧ Rx ins ds j ds.length far) ⟨_, _, _, _, _, _, _, _, _, rfl, sr, hrr, rx_zero⟩ ?_ ?_
  · rintro j σ H2 N hj ⟨far, o5, o6, o7, o8, o9, o10, o11, o12, rfl, s2, hr2, R2⟩ hN
    have h4 := s2 _ _ h2
    (iterate 5 ((try (walk_at "WP")); (try (simp only [h4, Option.some.injEq, HO.tup.injEq, HO.lst.injEq, HO.dK.injEq, exists_eq_left', exists_eq_left])))); (try (walk_at "WP"))
    refine ⟨⟨by omega, by omega⟩, ?_⟩
    rw [show (((us.length : Nat) : Int) - 1 + 1).toNat = ds.length by omega]
    refine forR3 (fun i σ H3 => ∃ (far : List Int) (o5 o6 o7 o8 o9 o10 o11 o12 : Option V), σ = [some (.ref x), some (.int ins), some (.ref dl), some (.ref gl), some (.ref r), o5, o6, o7, o8, o9, o10, o11, o12] ∧ Same H H3 ∧ H3 r = some (.lst (far.map V.int)) ∧ Rx ins ds j (ds.length - i) far) ⟨far, _, _, _, _, _, _, _, _, rfl, s2, hr2, R2⟩ ?_ ?_
    · rintro i σ H3 N2 hi ⟨far, o5, o6, o7, o8, o9, o10, o11, o12, rfl, s3, hr3, R3⟩ hN2
      obtain ⟨k, hk⟩ : ∃ k, k + i + 1 = ds.length := ⟨ds.length - 1 - i, by omega⟩
      rw [show ((us.length : Nat) : Int) - 1 + (i : Int) * -1 = (k : Int) by omega]
      have hkl : k < ds.length := by omega
      obtain ⟨y, hy1, hy2⟩ := W.hds.at_ k _ (List.getElem?_eq_getElem hkl)
      have hdk : ds[k]? = some ds[k] := List.getElem?_eq_getElem hkl
      generalize ds[k] = d at hy2 hdk
      have h5 := s3 _ _ h2
      have hy3 := s3 _ _ hy2
      unfold wTup at hy3
      obtain ⟨ha, hb⟩ := hD k d hdk
      (iterate 5 ((try (walk_at "WP")); (try (simp only [h5, Option.some.injEq, HO.tup.injEq, HO.lst.injEq, HO.dK.injEq, exists_eq_left', exists_eq_left])))); (try (walk_at "WP"))
      refine ⟨_, atI_nat hy1, ?_⟩
      (iterate 5 ((try (walk_at "WP")); (try (simp only [hy3, Option.some.injEq, HO.tup.injEq, HO.lst.injEq, HO.dK.injEq, exists_eq_left', exists_eq_left])))); (try (walk_at "WP"))
      intro tp ntp
      have st := same_new ntp (.tup [V.int (d.a : Int), V.int (d.b : Int)])
      have h9 : upd H3 tp (.tup [V.int (d.a : Int), V.int (d.b : Int)]) tp = some (.tup [V.int (d.a : Int), V.int (d.b : Int)]) := upd_same
      have hr4 := st _ _ hr3
      have s4 := s3.trans st
      have rtp : r ≠ tp := ne_of_none hr3 ntp
      generalize upd H3 tp (.tup [V.int (d.a : Int), V.int (d.b : Int)]) = H4 at h9 hr4 s4 ⊢
      refine ⟨⟨_, SqT.of h9⟩, ?_⟩
      rw [show ds.length - i = k + 1 by omega] at R3
      have R4 := R3.deed hD hdk
      have fl : far.length = ins + ds.length := R3.len
      refine forT (xs := [V.int (d.a : Int), V.int (d.b : Int)]) (fun n σ H5 => ∃ (o12 : Option V), σ = [some (.ref x), some (.int ins), some (.ref dl), some (.ref gl), some (.ref r), o5, some (.int k), some (.str d.w), some (.int d.a), some (.int d.s), some (.int d.b), some (.int d.t), o12] ∧ Chg r H4 H5 ∧ H5 r = some (.lst ((if n = 0 then far else if n = 1 then rel1 far (ins + k) d.a else rel1 (rel1 far (ins + k) d.a) (ins + k) d.b).map V.int))) ⟨_, rfl, Chg.refl, hr4⟩ ?_ ?_ ?_
      · rintro n σ H5 _ ⟨_, _, c5, _⟩
        exact SqT.of (c5 _ _ rtp.symm h9)
      · rintro n v σ H5 N3 hv ⟨o12, rfl, c5, hr5⟩ hN3
        obtain ⟨f, t, hf, ht, ev, e1, e2⟩ : ∃ (f : List Int) (t : Nat), f.length = ins + ds.length ∧ t < ins + ds.length ∧ v = .int (t : Int) ∧ (if n = 0 then far else if n = 1 then rel1 far (ins + k) d.a else rel1 (rel1 far (ins + k) d.a) (ins + k) d.b) = f ∧ (if n + 1 = 0 then far else if n + 1 = 1 then rel1 far (ins + k) d.a else rel1 (rel1 far (ins + k) d.a) (ins + k) d.b) = rel1 f (ins + k) t := by
          match n, hv with
          | 0, hv => exact ⟨far, d.a, fl, by omega, (Option.some.inj hv).symm, rfl, rfl⟩
          | 1, hv => exact ⟨rel1 far (ins + k) d.a, d.b, by rw [rel1_len, fl], by omega, (Option.some.inj hv).symm, rfl, rfl⟩
          | n + 2, hv => simp at hv
        subst ev
        rw [e1] at hr5
        (iterate 5 ((try (walk_at "WP")); (try (simp only [hr5, Option.some.injEq, HO.tup.injEq, HO.lst.injEq, HO.dK.injEq, exists_eq_left', exists_eq_left])))); (try (walk_at "WP"))
        have x1 := List.getElem?_eq_getElem (l := f) (i := ins + k) (by omega)
        have x2 := List.getElem?_eq_getElem (l := f) (i := t) (by omega)
        have y1 : atI (f.map V.int) ((ins : Int) + (k : Int)) = some (.int (f.getD (ins + k) 0)) := by
          rw [show (ins : Int) + (k : Int) = ((ins + k : Nat) : Int) by omega]
          exact atI_nat (by rw [List.getElem?_map, x1, getD_of x1]; rfl)
        have y2 : atI (f.map V.int) (t : Int) = some (.int (f.getD t 0)) := atI_nat (by rw [List.getElem?_map, x2, getD_of x2]; rfl)
        refine ⟨_, y1, _, y2, ?_⟩
        try walk_at "WP"
        refine ite2 (fun z => ?_) (fun z => ?_)
        · (iterate 5 ((try (walk_at "WP")); (try (simp only [hr5, Option.some.injEq, HO.tup.injEq, HO.lst.injEq, HO.dK.injEq, exists_eq_left', exists_eq_left])))); (try (walk_at "WP"))
          refine ⟨_, y2, ?_⟩
          (iterate 5 ((try (walk_at "WP")); (try (simp only [hr5, Option.some.injEq, HO.tup.injEq, HO.lst.injEq, HO.dK.injEq, exists_eq_left', exists_eq_left])))); (try (walk_at "WP"))
          refine ⟨ins + k, by rw [List.length_map, show (ins : Int) + (k : Int) = ((ins + k : Nat) : Int) by omega]; exact ixN_nat (by omega), ?_⟩
          refine hN3 _ _ ⟨_, rfl, c5.trans (Chg.upd _), ?_⟩
          rw [upd_same, e2, set_mapI]
          unfold rel1
          rw [if_pos z]
        · refine hN3 _ _ ⟨_, rfl, c5, ?_⟩
          rw [hr5, e2]
          unfold rel1
          rw [if_neg z]
      · rintro σ H5 ⟨o12, rfl, c5, hr5⟩
        refine hN2 _ _ ⟨_, _, _, _, _, _, _, _, _, rfl, same_chg nr s4 c5, hr5, ?_⟩
        rw [show ds.length - (i + 1) = k by omega]
        exact R4
    · rintro σ H3 ⟨far, o5, o6, o7, o8, o9, o10, o11, o12, rfl, s3, hr3, R3⟩
      rw [Nat.sub_self] at R3
      exact hN _ _ ⟨far, _, _, _, _, _, _, _, _, rfl, s3, hr3, R3.turn hj⟩
  · rintro σ H2 ⟨far, o5, o6, o7, o8, o9, o10, o11, o12, rfl, s2, hr2, R2⟩
    have e := R2.done
    subst e
    try walk_at "WP"
    exact q r H2 nr s2 hr2
end

section
variable {P : Program} {w : World} {K : PySem.W.Frag} {mg : Str → Option Value} {base : Heap}
theorem ok_areL (T : Txt K mg) : Cal P w K mg base 2 "_law_are_layers" ["_law_found", "_law_far"] spAreL := by
  have B := T.bl
  have C_l_whole := ok_whole (P := P) (w := w) (base := base) T
  refine mkCal T.t_l_are_layers sc_l_are_layers (fun vs H Q E h => ?_) (fun f cdv A outer s H vs Q E hr h => ?_)
  · obtain ⟨_, _, _, _, rfl, _⟩ := h
    rfl
  obtain ⟨f, l, ins, ds, rfl, L, hl, hD, i1, n64, q⟩ := h
  obtain ⟨vs, hf, vl, hv⟩ := id L
  have dl := dpW_len (ins := ins) (ds := ds)
  have hne : dpW ins ds ≠ [] := fun z => by
    have := congrArg List.length z
    rw [dl] at this
    simp at this
    omega
  have m0 := mz_nonneg (dpW ins ds)
  have vl2 : vs.length = nLay (dpW ins ds) := by rw [vl]; unfold layRs; rw [List.length_map, List.length_range]
  have mm := mz_mem hne dpW_nn
  obtain ⟨jm, hjm⟩ := List.getElem?_of_mem mm
  have jml := (List.getElem?_eq_some_iff.mp hjm).1
  rw [dl] at jml
  have mle := dp_le hD ds.length (Nat.le_refl _) jm jml
  rw [getD_of hjm] at mle
  refine ⟨_, (pss_cons (ps_if (PW.pt (pw_or (pt_not (pt_val (pe_callB call_isI rfl B.isinstance bo_isinstance (pa_cons (pv 0) (pa_cons (pe_bltn (v := .ty "list") rfl B.list bo_list rfl) pa_nil))))) (pw_or1 (pt_cmpR op_ne (pe_callB call_lenM rfl B.len bo_len (pa_cons (pv 0) pa_nil)) (pe_op op_add (pe_callB (call_max1 rfl) rfl B.max bo_max (pa_cons (pv 1) pa_nil)) pe_int) (nomark _))))) (pss_one (ps_ret pe_bl)) pss_nil)
    (pss_cons (ps_set (i := 2) sc_l_are_layers.nd rfl (by first | exact Or.inl rfl | exact Or.inr rfl) (pe_lst pa_nil))
    (pss_cons (ps_for PassesOwn.never rfl (pi_range1 rfl B.range (pa_cons (pe_callB call_lenM rfl B.len bo_len (pa_cons (pv 0) pa_nil)) pa_nil)) (pg_name (i := 3) sc_l_are_layers.nd rfl (by first | exact Or.inl rfl | exact Or.inr rfl)) (pss_cons (ps_set (i := 4) sc_l_are_layers.nd rfl (by first | exact Or.inl rfl | exact Or.inr rfl) (pe_ix ix_M (pv 0) (pv 3) (fun _ _ => rfl)))
    (pss_cons (ps_if (PW.pt (pw_or (pt_not (pt_val (pe_callB call_isI rfl B.isinstance bo_isinstance (pa_cons (pv 4) (pa_cons (pe_bltn (v := .ty "list") rfl B.list bo_list rfl) pa_nil))))) (pw_or (pt_cmpR (op_eqD hr) (pv 4) (pe_lst pa_nil) (nomark _)) (pw_or1 (pt_not (pt_val (pe_callB (call_all rfl) rfl B.all bo_all (pa_cons (pe_compC (N := ["_law_thing"]) (nt := 1) (cs := []) rfl (pi_list (pv 4)) (fun nd C s H fp => ⟨(pg_name (i := 0) nd rfl (by first | exact Or.inl rfl | exact Or.inr rfl)), pn_nil, (pe_cal C_l_whole hr rfl (pa_cons (pv 0) pa_nil))⟩) (by decide +kernel) (by first | rfl | decide +kernel) (by first | rfl | decide +kernel) rfl (fun _ => rfl)) pa_nil)))))))) (pss_one (ps_ret pe_bl)) pss_nil)
    (pss_cons (ps_if (PW.pt (pw_or (pt_cmpR (op_neD hr) (pv 4) (pe_callB (call_sortW w rfl) rfl B.sorted bo_sorted (pa_cons (pe_callTy (call_setW w rfl) rfl B.set bo_set (pa_cons (pv 4) pa_nil)) pa_nil)) (nomark _)) (pw_or (pt_cmpR op_lt (pe_ix ix_M (pv 4) pe_int (fun _ _ => rfl)) pe_int (nomark _)) (pw_or1 (pt_cmpR op_ge (pe_ix ix_M (pv 4) (pe_un un_neg pe_int) (fun _ _ => rfl)) (pe_callB call_lenM rfl B.len bo_len (pa_cons (pv 1) pa_nil)) (nomark _)))))) (pss_one (ps_ret pe_bl)) pss_nil)
    (pss_cons (ps_if (pt_cmpR (op_neD hr) (pe_compC (N := ["_law_thing", "_law_far", "_law_k"]) (nt := 1) (cs := [1, 3]) rfl (pi_list (pv 4)) (fun nd C s H fp => ⟨(pg_name (i := 0) nd rfl (by first | exact Or.inl rfl | exact Or.inr rfl)), (pn_one (pt_cmpR op_ne (pe_ix ix_M (pv 1) (pv 0) (fun _ _ => rfl)) (pv 2) (nomark _))), (pv 0)⟩) (by decide +kernel) (by first | rfl | decide +kernel) (by first | rfl | decide +kernel) rfl (fun _ => rfl)) (pe_lst pa_nil) (nomark _)) (pss_one (ps_ret pe_bl)) pss_nil)
    (pss_one (ps_set (i := 2) sc_l_are_layers.nd rfl (by first | exact Or.inl rfl | exact Or.inr rfl) (pe_op op_cat (pv 2) (pv 4)))))))))
    (pss_one (ps_ret (pe_cmpR (op_eqD hr) (pe_callB call_sortL rfl B.sorted bo_sorted (pa_cons (pv 2) pa_nil)) (pe_listrange rfl rfl B.list rfl B.range (pa_cons (pe_callB call_lenM rfl B.len bo_len (pa_cons (pv 1) pa_nil)) pa_nil)) (nomark _))))))), ?_⟩
  rw [show start ["_law_found", "_law_far", "_law_seen", "_law_k", "_law_row"] [.ref f, .ref l] = [some (.ref f), some (.ref l), none, none, none] from rfl]
  (iterate 5 ((try (walk_at "WP")); (try (simp only [isI_ll, hf, hl, Option.some.injEq, HO.tup.injEq, HO.lst.injEq, HO.dK.injEq, exists_eq_left', exists_eq_left])))); (try (walk_at "WP"))
  refine ⟨l, dpW ins ds, rfl, hl, hne, dpW_nn, ?_⟩
  try walk_at "WP"
  rw [if_neg (by rw [vl2]; unfold nLay; omega)]
  intro sn nsn
  have ss := same_new nsn (.lst [])
  have hf1 := ss _ _ hf
  (iterate 5 ((try (walk_at "WP")); (try (simp only [hf1, Option.some.injEq, HO.tup.injEq, HO.lst.injEq, HO.dK.injEq, exists_eq_left', exists_eq_left])))); (try (walk_at "WP"))
  refine ⟨by rw [vl2]; unfold nLay; omega, by rw [vl2]; unfold nLay; omega, ?_⟩
  rw [Int.toNat_natCast, vl2]
  refine forR (fun k σ H1 => ∃ (o3 o4 : Option V) (sa : Addr) (seen : List Int), σ = [some (.ref f), some (.ref l), some (.ref sa), o3, o4] ∧ Same H H1 ∧ H1 sa = some (.lst (seen.map V.int)) ∧ seen.Perm (((List.range (ins + ds.length)).filter fun i => decide ((dpW ins ds).getD i 0 < (k : Int))).map fun (i : Nat) => (i : Int))) ⟨_, _, sn, [], rfl, ss, upd_same, ?_⟩ ?_ ?_
  · have e : ((List.range (ins + ds.length)).filter fun i => decide ((dpW ins ds).getD i 0 < ((0 : Nat) : Int))) = [] := by
      rw [List.filter_eq_nil_iff]
      intro i _
      have := dp_nn (ins := ins) (ds := ds) i
      rw [decide_eq_true_eq]
      omega
    rw [e]
    exact List.Perm.refl _
  · rintro k σ H1 N hk ⟨o3, o4, sa, seen, rfl, s1, hs1, hp1⟩ hN
    have hf2 := s1 _ _ hf
    have er : (layRs (dpW ins ds) (nLay (dpW ins ds)) (ins + ds.length))[k]? = some (layR (dpW ins ds) (ins + ds.length) k) := by
      unfold layRs
      rw [List.getElem?_map, List.getElem?_range hk]
      rfl
    obtain ⟨p, hp, _, hrow⟩ := hv k _ er
    have hrow1 := s1 _ _ hrow
    have rise := layR_rise (dpW ins ds) (ins + ds.length) k
    have mem : ∀ x ∈ layR (dpW ins ds) (ins + ds.length) k, ∃ i : Nat, x = i ∧ i < ins + ds.length ∧ (dpW ins ds).getD i 0 = (k : Int) := fun x hx => mem_layR.mp hx
    have rl : (layR (dpW ins ds) (ins + ds.length) k).length ≤ ins + ds.length := by
      have h1 := List.length_filter_le (fun j => decide ((dpW ins ds).getD j 0 = (k : Int))) (List.range (ins + ds.length))
      unfold layR
      rw [List.length_map]
      rwa [List.length_range] at h1
    have rne : layR (dpW ins ds) (ins + ds.length) k ≠ [] := fun z => by
      obtain ⟨x, hx, ex⟩ := dp_down hD jm (mz (dpW ins ds)).toNat jml (by rw [getD_of hjm]; omega) k (by unfold nLay at hk; omega)
      have : ((x : Nat) : Int) ∈ layR (dpW ins ds) (ins + ds.length) k := mem_layR.mpr ⟨x, rfl, by omega, ex⟩
      rw [z] at this
      cases this
    have lp := lay_perm (dp := dpW ins ds) (m := ins + ds.length) k seen hp1
    have sl : seen.length ≤ ins + ds.length := by
      rw [hp1.length_eq, List.length_map]
      have := List.length_filter_le (fun i => decide ((dpW ins ds).getD i 0 < (k : Int))) (List.range (ins + ds.length))
      rwa [List.length_range] at this
    generalize hR : layR (dpW ins ds) (ins + ds.length) k = row at hrow1 rise mem rl rne lp
    (iterate 5 ((try (walk_at "WP")); (try (simp only [hf2, Option.some.injEq, HO.tup.injEq, HO.lst.injEq, HO.dK.injEq, exists_eq_left', exists_eq_left])))); (try (walk_at "WP"))
    rw [show (0 : Int) + (k : Int) = (k : Int) by omega]
    refine ⟨_, atI_nat hp, ?_⟩
    (iterate 5 ((try (walk_at "WP")); (try (simp only [isI_ll, hrow1, Option.some.injEq, HO.tup.injEq, HO.lst.injEq, HO.dK.injEq, exists_eq_left', exists_eq_left])))); (try (walk_at "WP"))
    intro e0 ne0
    have se := same_new ne0 (.lst [])
    refine eqLI (ns := row) (ms := []) (SqL.of (se _ _ hrow1)) (SqL.of upd_same) ?_
    have s2 := s1.trans se
    have hrow2 := se _ _ hrow1
    have hs2 := se _ _ hs1
    generalize upd H1 e0 (.lst []) = H2 at s2 hrow2 hs2 ⊢
    try walk_at "WP"
    rw [if_neg rne]
    refine ⟨⟨_, SqL.of hrow2⟩, ?_⟩
    refine comp_newL (SqL.of hrow2) (by rw [List.length_map]; exact le_big (by omega)) (fun _ => some (V.bl true)) (fun y H' R hy hS' hR' => ?_) (fun ac H3 nac s3' hac => ?_)
    · obtain ⟨n, hn, rfl⟩ := List.mem_map.mp hy
      try walk_at "WP"
      exact ⟨n, rfl, hR' _ (Same.refl _)⟩
    have e1 : (row.map V.int).filterMap (fun _ => some (V.bl true)) = (row.map fun _ => true).map V.bl := by
      rw [List.filterMap_map, List.map_map, ← filterMap_some]
      rfl
    rw [e1] at hac
    have s3 := s2.trans s3'
    have hrow3 := s3' _ _ hrow2
    have hs3 := s3' _ _ hs2
    try walk_at "WP"
    refine ⟨ac, _, rfl, hac, ?_⟩
    have ea : ((row.map fun _ => true).all id) = true := by
      rw [List.all_eq_true]
      intro x hx
      obtain ⟨_, _, rfl⟩ := List.mem_map.mp hx
      rfl
    rw [ea]
    try walk_at "WP"
    refine ⟨p, row, rfl, hrow3, by omega, fun st nst => ?_⟩
    have s4' := same_new nst (SetE w st (row.foldl PyProof.Rows.step_dedup []))
    try walk_at "WP"
    have dd : row.foldl PyProof.Rows.step_dedup [] = ded row := rfl
    have ddl := ded_len row
    refine ⟨st, ded row, rfl, upd_same, by omega, fun so nso => ?_⟩
    rw [sorted_rise rise]
    have s5' := same_new nso (.lst (row.map V.int))
    have s5 := (s3.trans s4').trans s5'
    have hrow5 := s5' _ _ (s4' _ _ hrow3)
    have hs5 := s5' _ _ (s4' _ _ hs3)
    refine neLI (ns := row) (ms := row) (SqL.of hrow5) (SqL.of upd_same) ?_
    generalize upd (upd H3 st (SetE w st (row.foldl PyProof.Rows.step_dedup []))) so (.lst (row.map V.int)) = H5 at s5 hrow5 hs5 ⊢
    (iterate 5 ((try (walk_at "WP")); (try (simp only [hrow5, Option.some.injEq, HO.tup.injEq, HO.lst.injEq, HO.dK.injEq, exists_eq_left', exists_eq_left])))); (try (walk_at "WP"))
    obtain ⟨x0, xr, exr⟩ : ∃ x0 xr, row = x0 :: xr := by
      cases row with
      | nil => exact absurd rfl rne
      | cons a b => exact ⟨a, b, rfl⟩
    obtain ⟨i0, ei0, _⟩ := mem x0 (by rw [exr]; exact List.mem_cons_self)
    refine ⟨_, atI_nat (j := 0) (by rw [exr]; rfl), ?_⟩
    try walk_at "WP"
    rw [if_neg (by omega)]
    obtain ⟨xl, hxl, axl, _⟩ := atI_m1 rne
    obtain ⟨il, eil, ill, _⟩ := mem xl hxl
    have hl5 := s5 _ _ hl
    (iterate 5 ((try (walk_at "WP")); (try (simp only [hrow5, hl5, Option.some.injEq, HO.tup.injEq, HO.lst.injEq, HO.dK.injEq, exists_eq_left', exists_eq_left])))); (try (walk_at "WP"))
    refine ⟨_, axl, ?_⟩
    (iterate 5 ((try (walk_at "WP")); (try (simp only [hrow5, hl5, Option.some.injEq, HO.tup.injEq, HO.lst.injEq, HO.dK.injEq, exists_eq_left', exists_eq_left])))); (try (walk_at "WP"))
    rw [List.length_map, dl, if_neg (by omega)]
    refine ⟨⟨_, SqL.of hrow5⟩, ?_⟩
    refine comp_L (f := fun _ => none) (SqL.of hrow5) (by rw [List.length_map]; exact le_big (by omega)) (fun y H' R hy hS' hR' => ?_) (fun a2 na2 => ?_)
    · obtain ⟨n, hn, rfl⟩ := List.mem_map.mp hy
      obtain ⟨i, rfl, hi2, hi3⟩ := mem n hn
      rw [show capV [1, 3] [some (V.ref f), some (V.ref l), some (V.ref sa), some (V.int (k : Int)), some (V.ref p)] = [some (V.ref l), some (V.int (k : Int))] from rfl]
      have hl6 := hS' _ _ hl5
      (iterate 5 ((try (walk_at "WP")); (try (simp only [hl6, Option.some.injEq, HO.tup.injEq, HO.lst.injEq, HO.dK.injEq, exists_eq_left', exists_eq_left])))); (try (walk_at "WP"))
      have e := List.getElem?_eq_getElem (l := dpW ins ds) (i := i) (by rw [dl]; exact hi2)
      refine ⟨_, atI_nat (by rw [List.getElem?_map, e]; rfl), ?_⟩
      rw [getD_of e] at hi3
      rw [hi3]
      try walk_at "WP"
      exact hR'
    have e2 : (row.map V.int).filterMap (fun _ => (none : Option V)) = ([] : List Int).map V.int := by
      rw [List.filterMap_map]
      exact List.filterMap_eq_nil_iff.mpr fun _ _ => rfl
    rw [e2]
    have s6' := same_new na2 (.lst (([] : List Int).map V.int))
    have h6 : upd H5 a2 (.lst (([] : List Int).map V.int)) a2 = some (.lst (([] : List Int).map V.int)) := upd_same
    have s6 := s5.trans s6'
    have hrow6 := s6' _ _ hrow5
    have hs6 := s6' _ _ hs5
    generalize upd H5 a2 (.lst (([] : List Int).map V.int)) = H6 at s6 h6 hrow6 hs6 ⊢
    try walk_at "WP"
    intro a3 na3
    have s7' := same_new na3 (.lst [])
    refine neLI (ns := []) (ms := []) (SqL.of (s7' _ _ h6)) (SqL.of upd_same) ?_
    have s7 := s6.trans s7'
    have hrow7 := s7' _ _ hrow6
    have hs7 := s7' _ _ hs6
    generalize upd H6 a3 (.lst []) = H7 at s7 hrow7 hs7 ⊢
    try walk_at "WP"
    refine ⟨_, hs7, _, hrow7, by simp only [List.length_map]; exact le_big (by omega), fun a4 na4 => ?_⟩
    refine hN _ _ ⟨_, _, a4, seen ++ row, rfl, s7.trans (same_new na4 _), by rw [upd_same, List.map_append], lp⟩
  · rintro σ H1 ⟨o3, o4, sa, seen, rfl, s1, hs1, hp1⟩
    have hl1 := s1 _ _ hl
    try walk_at "WP"
    have fe : ((List.range (ins + ds.length)).filter fun i => decide ((dpW ins ds).getD i 0 < ((nLay (dpW ins ds) : Nat) : Int))) = List.range (ins + ds.length) := by
      rw [List.filter_eq_self]
      intro i hi
      have il := List.mem_range.mp hi
      have e := List.getElem?_eq_getElem (l := dpW ins ds) (i := i) (by rw [dl]; exact il)
      have := mz_ge (List.mem_of_getElem? e)
      rw [← getD_of (d := 0) e] at this
      exact decide_eq_true (by unfold nLay; omega)
    rw [fe] at hp1
    have sl : seen.length < 64 := by rw [hp1.length_eq, List.length_map, List.length_range]; exact n64
    refine ⟨sa, seen, rfl, hs1, sl, fun a2 na2 => ?_⟩
    have es : sortI seen = (List.range (ins + ds.length)).map fun (i : Nat) => (i : Int) := by
      refine (sortI_of hp1.symm ?_).symm
      rw [List.pairwise_map]
      exact List.pairwise_lt_range.imp fun h => by omega
    rw [es]
    have s2' := same_new na2 (.lst (((List.range (ins + ds.length)).map fun (i : Nat) => (i : Int)).map V.int))
    have h2 : upd H1 a2 (.lst (((List.range (ins + ds.length)).map fun (i : Nat) => (i : Int)).map V.int)) a2 = some (.lst (((List.range (ins + ds.length)).map fun (i : Nat) => (i : Int)).map V.int)) := upd_same
    have s2 := s1.trans s2'
    have hl2 := s2' _ _ hl1
    generalize upd H1 a2 (.lst (((List.range (ins + ds.length)).map fun (i : Nat) => (i : Int)).map V.int)) = H2 at s2 h2 hl2 ⊢
    (iterate 5 ((try (walk_at "WP")); (try (simp only [hl2, Option.some.injEq, HO.tup.injEq, HO.lst.injEq, HO.dK.injEq, exists_eq_left', exists_eq_left])))); (try (walk_at "WP"))
    refine ⟨ins + ds.length, by rw [List.length_map, dl], by omega, fun a5 H3 na5 s3 h3 => ?_⟩
    have er : rngV 0 (ins + ds.length) = ((List.range (ins + ds.length)).map fun (i : Nat) => (i : Int)).map V.int := by
      unfold rngV
      rw [List.map_map]
      refine List.map_congr_left fun i _ => ?_
      show V.int (0 + (i : Int)) = V.int (i : Int)
      rw [Int.zero_add]
    rw [er] at h3
    refine eqLI (SqL.of (s3 _ _ h2)) (SqL.of h3) ?_
    rw [decide_eq_true rfl]
    exact q _ (s2.trans s3)
end

section
variable {P : Program} {w : World} {K : PySem.W.Frag} {mg : Str → Option Value} {base : Heap}
theorem ok_law (T : Txt K mg) {f : Addr} {fd : FuncData} (F : Fun K "law" "law" s_law f fd) : FnOk P w K mg base CX0 20 f fd ["_law_script"] (spLaw K) := by
  have B := T.bl
  have C_l_feed := (ok_feed (P := P) (w := w) (base := base) T).mono (k := 19) (by decide)
  have C_l_web := (ok_fweb (P := P) (w := w) (base := base) T).mono (k := 19) (by decide)
  have C_l_reached := (ok_reach (P := P) (w := w) (base := base) T).mono (k := 19) (by decide)
  have C_l_are_layers := (ok_areL (P := P) (w := w) (base := base) T).mono (k := 19) (by decide)
  have C_l_whole := (ok_whole (P := P) (w := w) (base := base) T).mono (k := 19) (by decide)
  have C_depths := (ok_depths (P := P) (w := w) (base := base) T).mono (k := 19) (by decide)
  have C_depth := (ok_depth (P := P) (w := w) (base := base) T).mono (k := 19) (by decide)
  have C_layers := (ok_layers (P := P) (w := w) (base := base) T).mono (k := 19) (by decide)
  refine F.ok sc_law (fun vs H Q E h => ?_) (fun cdv A outer s H vs Q E hr h => ?_)
  · obtain ⟨a, ns, rfl, _⟩ := h
    rfl
  obtain ⟨a, ns, rfl, hS, h63, q⟩ := h
  refine ⟨_, (pss_mid (ps_for PassesOwn.never rfl (pi_range1 rfl B.range (pa_cons (pe_callB (call_max2 rfl) rfl B.max bo_max (pa_cons pe_int (pa_cons (pe_callB (call_min2 rfl) rfl B.min bo_min (pa_cons pe_int (pa_cons (pe_callB call_lenS rfl B.len bo_len (pa_cons (pv 0) pa_nil)) pa_nil))) pa_nil))) pa_nil)) (pg_name (i := 1) sc_law.nd rfl (by first | exact Or.inl rfl | exact Or.inr rfl)) (pss_cons (ps_asg (pe_cal C_l_web hr rfl (pa_cons (pe_cal C_l_feed hr rfl (pa_cons (pv 0) (pa_cons (pv 1) pa_nil))) (pa_cons pe_int pa_nil))) (pg_tupM 2 rfl (pgs_cons (pg_name (i := 2) sc_law.nd rfl (by first | exact Or.inl rfl | exact Or.inr rfl)) (pgs_cons (pg_name (i := 3) sc_law.nd rfl (by first | exact Or.inl rfl | exact Or.inr rfl)) pgs_nil))))
    (pss_cons (ps_asg (pv 2) (pg_tupM 3 rfl (pgs_cons (pg_name (i := 4) sc_law.nd rfl (by first | exact Or.inl rfl | exact Or.inr rfl)) (pgs_cons (pg_name (i := 5) sc_law.nd rfl (by first | exact Or.inl rfl | exact Or.inr rfl)) (pgs_cons (pg_name (i := 6) sc_law.nd rfl (by first | exact Or.inl rfl | exact Or.inr rfl)) pgs_nil)))))
    (pss_cons (ps_set (i := 7) sc_law.nd rfl (by first | exact Or.inl rfl | exact Or.inr rfl) (pe_tup (pa_cons (pv 4) (pa_cons (pe_callTy call_list_of rfl B.list bo_list (pa_cons (pv 5) pa_nil)) (pa_cons (pe_callTy call_list_of rfl B.list bo_list (pa_cons (pv 6) pa_nil)) pa_nil)))))
    (pss_cons (ps_set (i := 8) sc_law.nd rfl (by first | exact Or.inl rfl | exact Or.inr rfl) (pe_cal C_l_reached hr rfl (pa_cons (pv 2) pa_nil)))
    (pss_mid (ps_for PassesOwn.never rfl (pi_range1 rfl B.range (pa_cons pe_int pa_nil)) (pg_name (i := 9) sc_law.nd rfl (by first | exact Or.inl rfl | exact Or.inr rfl)) (pss_cons (ps_set (i := 10) sc_law.nd rfl (by first | exact Or.inl rfl | exact Or.inr rfl) (pe_cal C_depths hr rfl (pa_cons (pv 7) pa_nil)))
    (pss_cons (ps_if (PW.pt (pw_or (pt_not (pt_val (pe_callB call_isI rfl B.isinstance bo_isinstance (pa_cons (pv 10) (pa_cons (pe_bltn (v := .ty "list") rfl B.list bo_list rfl) pa_nil))))) (pw_or (pt_cmpR (op_neD hr) (pv 10) (pv 8) (nomark _)) (pw_or1 (pt_not (pt_val (pe_callB (call_all rfl) rfl B.all bo_all (pa_cons (pe_compC (N := ["_law_part"]) (nt := 1) (cs := []) rfl (pi_list (pv 10)) (fun nd C s H fp => ⟨(pg_name (i := 0) nd rfl (by first | exact Or.inl rfl | exact Or.inr rfl)), pn_nil, (pe_cal C_l_whole hr rfl (pa_cons (pv 0) pa_nil))⟩) (by decide +kernel) (by first | rfl | decide +kernel) (by first | rfl | decide +kernel) rfl (fun _ => rfl)) pa_nil)))))))) (pss_one (ps_ret pe_bl)) pss_nil)
    (pss_cons (ps_set (i := 11) sc_law.nd rfl (by first | exact Or.inl rfl | exact Or.inr rfl) (pe_callB (call_max1 rfl) rfl B.max bo_max (pa_cons (pe_op op_cat (pe_lst (pa_cons pe_int pa_nil)) (pe_compC (N := ["_law_out", "_law_far"]) (nt := 1) (cs := [8]) rfl (pi_list (pv 6)) (fun nd C s H fp => ⟨(pg_name (i := 0) nd rfl (by first | exact Or.inl rfl | exact Or.inr rfl)), (pn_one (pt_cmpR op_ne (pe_ix ix_U (pv 0) pe_int (fun _ _ => rfl)) pe_int (nomark _))), (pe_ix ix_M (pv 1) (pe_ix ix_U (pv 0) pe_int (fun _ _ => rfl)) (fun _ _ => rfl))⟩) (by decide +kernel) (by first | rfl | decide +kernel) (by first | rfl | decide +kernel) rfl (fun _ => rfl))) pa_nil)))
    (pss_cons (ps_set (i := 12) sc_law.nd rfl (by first | exact Or.inl rfl | exact Or.inr rfl) (pe_cal C_depth hr rfl (pa_cons (pv 7) pa_nil)))
    (pss_cons (ps_if (PW.pt (pw_or (pt_not (pt_val (pe_cal C_l_whole hr rfl (pa_cons (pv 12) pa_nil)))) (pw_or (pt_cmpR op_ne (pv 12) (pv 11) (nomark _)) (pw_or (pt_not (pt_val (pe_cal C_l_are_layers hr rfl (pa_cons (pe_cal C_layers hr rfl (pa_cons (pv 7) pa_nil)) (pa_cons (pv 8) pa_nil))))) (pw_or1 (pt_cmpR (op_neD hr) (pv 7) (pv 2) (nomark _))))))) (pss_one (ps_ret pe_bl)) pss_nil)
    (pss_cons (ps_expr (pe_bm0 PySem.F.plainAttrs_list PySem.F.slot_list_clear PySem.F.type_list_clear mt_clear (pv 10)))
    (pss_one (ps_expr (pe_bm PySem.F.plainAttrs_list PySem.F.slot_list_append PySem.F.type_list_append mt_append (pe_ix ix_M (pe_cal C_layers hr rfl (pa_cons (pv 7) pa_nil)) pe_int (fun _ _ => rfl)) (pa_cons pe_int pa_nil)))))))))))
    (pss_cons (ps_expr (pe_bm0 PySem.F.plainAttrs_list PySem.F.slot_list_clear PySem.F.type_list_clear mt_clear (pe_ix ix_U (pv 7) pe_int (fun _ _ => rfl))))
    (pss_one (ps_if (PW.pt (pw_or (pt_cmpR op_ne (pe_cal C_depth hr rfl (pa_cons (pv 7) pa_nil)) pe_int (nomark _)) (pw_or (pt_cmpR (op_neD hr) (pe_cal C_depths hr rfl (pa_cons (pv 7) pa_nil)) (pv 8) (nomark _)) (pw_or1 (pt_not (pt_val (pe_cal C_l_are_layers hr rfl (pa_cons (pe_cal C_layers hr rfl (pa_cons (pv 7) pa_nil)) (pa_cons (pv 8) pa_nil))))))))) (pss_one (ps_ret pe_bl)) pss_nil)))))))))
    (pss_cons (ps_set (i := 13) sc_law.nd rfl (by first | exact Or.inl rfl | exact Or.inr rfl) (pe_tup (pa_cons pe_int (pa_cons (pe_compC (N := ["_law_k"]) (nt := 1) (cs := []) rfl (pi_range1 rfl B.range (pa_cons pe_int pa_nil)) (fun nd C s H fp => ⟨(pg_name (i := 0) nd rfl (by first | exact Or.inl rfl | exact Or.inr rfl)), pn_nil, (pe_tup (pa_cons pe_str (pa_cons (pv 0) (pa_cons pe_int (pa_cons (pv 0) (pa_cons pe_int pa_nil))))))⟩) (by decide +kernel) (by first | rfl | decide +kernel) (by first | rfl | decide +kernel) rfl (fun _ => rfl)) (pa_cons (pe_lst (pa_cons (pe_tup (pa_cons pe_int (pa_cons pe_int (pa_cons pe_int pa_nil)))) pa_nil)) pa_nil)))))
    (pss_cons (ps_if (PW.pt (pw_or (pt_cmpR (op_neD hr) (pe_cal C_depths hr rfl (pa_cons (pv 13) pa_nil)) (pe_listrange rfl rfl B.list rfl B.range (pa_cons pe_int pa_nil)) (nomark _)) (pw_or1 (pt_cmpR op_ne (pe_cal C_depth hr rfl (pa_cons (pv 13) pa_nil)) pe_int (nomark _))))) (pss_one (ps_ret pe_bl)) pss_nil)
    (pss_one (ps_ret (pe_cmpR (op_eqD hr) (pe_cal C_layers hr rfl (pa_cons (pv 13) pa_nil)) (pe_compC (N := ["_law_k"]) (nt := 1) (cs := []) rfl (pi_range1 rfl B.range (pa_cons pe_int pa_nil)) (fun nd C s H fp => ⟨(pg_name (i := 0) nd rfl (by first | exact Or.inl rfl | exact Or.inr rfl)), pn_nil, (pe_lst (pa_cons (pv 0) pa_nil))⟩) (by decide +kernel) (by first | rfl | decide +kernel) (by first | rfl | decide +kernel) rfl (fun _ => rfl)) (nomark _))))))), ?_⟩
  rw [show start ["_law_script", "_law_k", "_law_web_here", "_law_rows", "_law_ins", "_law_deeds", "_law_outs", "_law_handed", "_law_far", "_law_turn", "_law_found", "_law_due", "_law_told", "_law_chain"] [.ref a] = [some (.ref a), none, none, none, none, none, none, none, none, none, none, none, none, none] from rfl]
  refine mid_of (fun σ H1 => ∃ o1 o2 o3 o4 o5 o6 o7 o8 o9 o10 o11 o12, σ = [some (V.ref a), o1, o2, o3, o4, o5, o6, o7, o8, o9, o10, o11, o12, none] ∧ Same H H1) (fun N hN => ?_) ?_
  · try walk_at "WP"
    refine ⟨_, hS.sq, _, _, ⟨rfl, rfl⟩, _, _, ⟨rfl, rfl⟩, ?_⟩
    generalize hm : (if (if ((((ns.map V.int).length : Nat) : Int)) < 12 then (((ns.map V.int).length : Nat) : Int) else 12) > 1 then (if ((((ns.map V.int).length : Nat) : Int)) < 12 then (((ns.map V.int).length : Nat) : Int) else 12) else 1) = m
    have hm2 : 1 ≤ m ∧ m ≤ 12 := by rw [← hm]; split <;> split <;> omega
    refine ⟨by omega, by omega, ?_⟩
    refine forR (fun i σ H1 => ∃ o1 o2 o3 o4 o5 o6 o7 o8 o9 o10 o11 o12, σ = [some (V.ref a), o1, o2, o3, o4, o5, o6, o7, o8, o9, o10, o11, o12, none] ∧ Same H H1) ⟨_, _, _, _, _, _, _, _, _, _, _, _, rfl, Same.refl _⟩ ?_ ?_
    · rintro i σ H0 N2 hi ⟨o1, o2, o3, o4, o5, o6, o7, o8, o9, o10, o11, o12, rfl, s0⟩ hN2
      try walk_at "WP"
      refine ⟨a, ns, 0 + (i : Int), rfl, hS.same s0, h63, by omega, by omega, fun p H1 np s1 F1 => ?_⟩
      try walk_at "WP"
      refine ⟨p, 0, 12, rfl, F1, by decide, by decide, by decide, fun t wb dl gl tb ins us ds os gs ts H2 nt nw nd ng ntb dg td tg ht W F htb hrs hk F2 C2 => ?_⟩
      have s02 : Same H0 H2 := fun b o e => C2 b o (ne_of_none e np) (s1 b o e)
      have i1 := F.ok.i1
      have i12 := F.ok.i2
      have gl12 := F.ok.gl
      have hD : Dko ins ds := fun k d h => ⟨(F.ok.dk k d h).1, (F.ok.dk k d h).2.1⟩
      have u1 := W.tup
      (iterate 5 ((try (walk_at "WP")); (try (simp only [ht, u1, Option.some.injEq, HO.tup.injEq, HO.lst.injEq, HO.dK.injEq, exists_eq_left', exists_eq_left])))); (try (walk_at "WP"))
      refine ⟨us, .inl (SqL.of W.dll), fun l1 hl1 => ?_⟩
      have s3 := same_new hl1 (.lst us)
      have e1 : (upd H2 l1 (.lst us)) l1 = some (.lst us) := upd_same
      generalize upd H2 l1 (.lst us) = H3 at s3 e1 ⊢
      try walk_at "WP"
      refine ⟨os, .inl (SqL.of (s3 _ _ W.gll)), fun l2 hl2 => ?_⟩
      have s4 := same_new hl2 (.lst os)
      have n12 : l1 ≠ l2 := ne_of_none e1 hl2
      have e1 := s4 _ _ e1
      have e2 : (upd H3 l2 (.lst os)) l2 = some (.lst os) := upd_same
      have fl2 : H2 l2 = none := s3.free hl2
      have s4 := s3.trans s4
      generalize upd H3 l2 (.lst os) = H4 at s4 e1 e2 ⊢
      try walk_at "WP"
      intro ha hha
      have s5 := same_new hha (.tup [V.int (ins : Int), V.ref l1, V.ref l2])
      have e1 := s5 _ _ e1
      have e2 := s5 _ _ e2
      have e3 : (upd H4 ha (.tup [V.int (ins : Int), V.ref l1, V.ref l2])) ha = some (.tup [V.int (ins : Int), V.ref l1, V.ref l2]) := upd_same
      have s5 := s4.trans s5
      generalize upd H4 ha (.tup [V.int (ins : Int), V.ref l1, V.ref l2]) = H5 at s5 e1 e2 e3 ⊢
      have WH : Wb H5 ha l1 l2 ins us ds os gs := ⟨e3, e1, W.hds.same s5, e2, W.hgs.same s5⟩
      have W5 := W.same s5
      try walk_at "WP"
      refine ⟨wb, dl, gl, ins, us, ds, os, gs, rfl, W5, hD, by omega, i12, fun fr H6 nfr s6' hfr => ?_⟩
      have s6 := s5.trans s6'
      have WH := WH.same s6'
      have W6 := W5.same s6'
      have l2fr : l2 ≠ fr := ne_of_none e2 nfr
      try walk_at "WP"
      refine mid_of (fun σ H7 => ∃ o9 o10 o11 o12, σ = [some (V.ref a), some (.int (0 + (i : Int))), some (.ref wb), some (.ref tb), some (.int ins), some (.ref dl), some (.ref gl), some (.ref ha), some (.ref fr), o9, o10, o11, o12, none] ∧ Same H6 H7) (fun N3 hN3 => ?_) ?_
      · try walk_at "WP"
        refine forR (fun j σ H7 => ∃ o9 o10 o11 o12, σ = [some (V.ref a), some (.int (0 + (i : Int))), some (.ref wb), some (.ref tb), some (.int ins), some (.ref dl), some (.ref gl), some (.ref ha), some (.ref fr), o9, o10, o11, o12, none] ∧ Same H6 H7) ⟨_, _, _, _, rfl, Same.refl _⟩ ?_ ?_
        · rintro j σ H7 N4 hj ⟨o9, o10, o11, o12, rfl, s7⟩ hN4
          refine seq_inG fun R_ hR_ => ?_
          try walk_at "WP"
          refine ⟨ha, l1, l2, ins, us, ds, os, gs, rfl, WH.same s7, hD, by omega, i12, fun fo H8 nfo s8' hfo => ?_⟩
          have s8 := s7.trans s8'
          have hfr8 := s8 _ _ hfr
          have nfo6 : H6 fo = none := s7.free nfo
          (try (walk_at "WP")); (try (refine seq_out hR_ ?_)); (try (refine seq_in fun R_ hR_ => ?_)); (iterate 5 ((try (walk_at "WP")); (try (simp only [isI_ll, hfo, Option.some.injEq, HO.tup.injEq, HO.lst.injEq, HO.dK.injEq, exists_eq_left', exists_eq_left])))); (try (walk_at "WP"))
          refine neLI (ns := dpW ins ds) (ms := dpW ins ds) (SqL.of hfo) (SqL.of hfr8) ?_
          try walk_at "WP"
          refine ⟨⟨_, SqL.of hfo⟩, ?_⟩
          refine comp_newL (SqL.of hfo) (by rw [List.length_map, dpW_len]; exact le_big (by omega)) (fun _ => some (V.bl true)) (fun y H' R hy hS' hR' => ?_) (fun ac H9 nac s9' hac => ?_)
          · obtain ⟨n, hn, rfl⟩ := List.mem_map.mp hy
            try walk_at "WP"
            exact ⟨n, rfl, hR' _ (Same.refl _)⟩
          have ea0 : ((dpW ins ds).map V.int).filterMap (fun _ => some (V.bl true)) = ((dpW ins ds).map fun _ => true).map V.bl := by
            rw [List.filterMap_map, List.map_map, ← filterMap_some]
            rfl
          rw [ea0] at hac
          have s9 := s8.trans s9'
          try walk_at "WP"
          refine ⟨ac, _, rfl, hac, ?_⟩
          have ea : (((dpW ins ds).map fun _ => true).all id) = true := by
            rw [List.all_eq_true]
            intro x hx
            obtain ⟨_, _, rfl⟩ := List.mem_map.mp hx
            rfl
          rw [ea]
          have hfr9 := s9 _ _ hfr
          have hfo9 := s9' _ _ hfo
          have W9 := W6.same s9
          (try (walk_at "WP")); (try (refine seq_out hR_ ?_)); (try (refine seq_in fun R_ hR_ => ?_)); (try (walk_at "WP"))
          intro z0 nz0
          have s10' := same_new nz0 (.lst [V.int 0])
          have hz0 : upd H9 z0 (.lst [V.int 0]) z0 = some (.lst [V.int 0]) := upd_same
          have s10 := s9.trans s10'
          have hfr10 := s10' _ _ hfr9
          have hfo10 := s10' _ _ hfo9
          have W10 := W9.same s10'
          generalize upd H9 z0 (.lst [V.int 0]) = H10 at hz0 s10 hfr10 hfo10 W10 ⊢
          refine ⟨⟨_, SqL.of W10.gll⟩, ?_⟩
          refine comp_ofF W10.gll W10.hgs.len (by omega) (fun g => if g.sg ≠ 0 then some ((dpW ins ds).getD g.th 0) else none) (fun k v g H' R hv hg s' hR' => ?_) (fun dd H11 ndd s11' hdd => ?_)
          · rw [show capV [8] [some (V.ref a), some (V.int (0 + (i : Int))), some (V.ref wb), some (V.ref tb), some (V.int ins), some (V.ref dl), some (V.ref gl), some (V.ref ha), some (V.ref fr), some (V.int (0 + (j : Int))), some (V.ref fo), o11, o12, none] = [some (V.ref fr)] from rfl]
            obtain ⟨x, x1, x2⟩ := W10.hgs.at_ k g hg
            rw [hv] at x1
            cases x1
            have x3 := s' _ _ x2
            unfold gTp at x3
            have hfr' := s' _ _ hfr10
            (iterate 5 ((try (walk_at "WP")); (try (simp only [x3, hfr', Option.some.injEq, HO.tup.injEq, HO.lst.injEq, HO.dK.injEq, exists_eq_left', exists_eq_left])))); (try (walk_at "WP"))
            refine ite2 (fun z => ?_) (fun z => ?_)
            · rw [if_pos z] at hR'
              have e := List.getElem?_eq_getElem (l := dpW ins ds) (i := g.th) (by rw [dpW_len]; exact F.ok.gk g (List.mem_of_getElem? hg))
              refine ⟨_, atI_nat (by rw [List.getElem?_map, e]; rfl), ?_⟩
              rw [getD_of e] at hR'
              exact hR' _ (Same.refl _)
            · rw [if_neg z] at hR'
              exact hR' _ (Same.refl _)
          rw [goD_map] at hdd
          have s11 := s10.trans s11'
          have hz11 := s11' _ _ hz0
          have hfr11 := s11' _ _ hfr10
          have hfo11 := s11' _ _ hfo10
          try walk_at "WP"
          have gol : (goD (dpW ins ds) gs).length ≤ 12 := by
            unfold goD
            rw [List.length_map]
            exact Nat.le_trans (List.length_filter_le _ _) gl12
          refine ⟨_, hz11, _, hdd, by rw [List.length_map]; simp only [List.length_cons, List.length_nil]; exact le_size (by omega), fun mx nmx => ?_⟩
          have s12' := same_new nmx (.lst ([V.int 0] ++ (goD (dpW ins ds) gs).map V.int))
          have s12 := s11.trans s12'
          have hfr12 := s12' _ _ hfr11
          have hfo12 := s12' _ _ hfo11
          have hmx : upd H11 mx (.lst ([V.int 0] ++ (goD (dpW ins ds) gs).map V.int)) mx = some (.lst ((0 :: goD (dpW ins ds) gs).map V.int)) := upd_same
          generalize upd H11 mx (.lst ([V.int 0] ++ (goD (dpW ins ds) gs).map V.int)) = H12 at s12 hfr12 hfo12 hmx ⊢
          have gnn : ∀ n ∈ 0 :: goD (dpW ins ds) gs, 0 ≤ n := fun n hn => by
            rcases List.mem_cons.mp hn with z | z
            · omega
            · obtain ⟨g, _, rfl⟩ := List.mem_map.mp z
              exact dp_nn g.th
          refine ⟨mx, _, rfl, hmx, (by intro z; cases z), gnn, ?_⟩
          rw [mz_zero]
          (try (walk_at "WP")); (try (refine seq_out hR_ ?_)); (try (refine seq_in fun R_ hR_ => ?_)); (try (walk_at "WP"))
          refine ⟨ha, l1, l2, ins, us, ds, os, gs, rfl, WH.same s12, hD, by omega, i12, gl12, F.ok.gk, fun H13 s13' => ?_⟩
          have s13 := s12.trans s13'
          (try (walk_at "WP")); (try (refine seq_out hR_ ?_)); (try (refine seq_in fun R_ hR_ => ?_)); (try (walk_at "WP"))
          refine ⟨_, rfl, ?_⟩
          try walk_at "WP"
          refine ⟨ha, l1, l2, ins, us, ds, os, gs, rfl, WH.same s13, hD, by omega, i1, i12, fun la ps H14 nla nps s14' L14 => ?_⟩
          have s14 := s13.trans s14'
          try walk_at "WP"
          refine ⟨la, fr, ins, ds, rfl, L14.ll, s14 _ _ hfr, hD, i1, by omega, fun H15 s15' => ?_⟩
          have s15 := s14.trans s15'
          try walk_at "WP"
          refine ne_web (WH.same s15) (W6.same s15) ?_
          have hfo15 := s15' _ _ (s14' _ _ (s13' _ _ hfo12))
          (try (walk_at "WP")); (try (refine seq_out hR_ ?_)); (try (refine seq_in fun R_ hR_ => ?_)); (try (walk_at "WP"))
          refine ⟨ty_list hfo15, _, hfo15, ?_⟩
          have s16 := same_chg nfo6 s15 (Chg.upd (.lst []))
          generalize upd H15 fo (.lst []) = H16 at s16 ⊢
          (try (walk_at "WP")); (try (refine seq_out hR_ ?_)); (try (refine seq_in fun R_ hR_ => ?_)); (try (walk_at "WP"))
          refine ⟨ha, l1, l2, ins, us, ds, os, gs, rfl, WH.same s16, hD, by omega, i1, i12, fun lb qs H17 nlb nqs s17' L17 => ?_⟩
          have lq := L17.lst
          have ql : 0 < qs.length := by rw [L17.len]; unfold layRs nLay; rw [List.length_map, List.length_range]; omega
          have eq0 := List.getElem?_eq_getElem (l := qs) (i := 0) ql
          generalize qs[0] = q0 at eq0
          have hq0 := L17.at_ 0 q0 (layR (dpW ins ds) (ins + ds.length) 0) eq0 (by unfold layRs nLay; rw [List.getElem?_map, List.getElem?_range (by omega)]; rfl)
          have lr : (layR (dpW ins ds) (ins + ds.length) 0).length ≤ ins + ds.length := by
            have h1 := List.length_filter_le (fun j => decide ((dpW ins ds).getD j 0 = ((0 : Nat) : Int))) (List.range (ins + ds.length))
            unfold layR
            rw [List.length_map]
            rwa [List.length_range] at h1
          (iterate 5 ((try (walk_at "WP")); (try (simp only [lq, Option.some.injEq, HO.tup.injEq, HO.lst.injEq, HO.dK.injEq, exists_eq_left', exists_eq_left])))); (try (walk_at "WP"))
          refine ⟨_, atI_nat (j := 0) (by rw [List.getElem?_map, eq0]; rfl), ?_⟩
          try walk_at "WP"
          refine ⟨ty_list hq0, _, hq0, by rw [List.length_map]; exact lt_big (by omega), ?_⟩
          exact hN4 _ _ ⟨_, _, _, _, rfl, same_chg (s16.free (nqs q0 (List.mem_of_getElem? eq0))) (s16.trans s17') (Chg.upd _)⟩
        · rintro σ H7 ⟨o9, o10, o11, o12, rfl, s7⟩
          exact hN3 _ _ ⟨o9, o10, o11, o12, rfl, s7⟩
      · rintro σ H7 ⟨o9, o10, o11, o12, rfl, s7⟩
        have WH7 := WH.same s7
        have hx7 := WH7.tup
        refine seq_in fun R_ hR_ => ?_
        (iterate 5 ((try (walk_at "WP")); (try (simp only [hx7, Option.some.injEq, HO.tup.injEq, HO.lst.injEq, HO.dK.injEq, exists_eq_left', exists_eq_left])))); (try (walk_at "WP"))
        refine ⟨ty_list WH7.gll, _, WH7.gll, ?_⟩
        have C8 : Chg l2 H7 (upd H7 l2 (.lst [])) := Chg.upd _
        have W8 : Wb (upd H7 l2 (.lst [])) ha l1 l2 ins us ds [] [] := ⟨C8 _ _ (ne_of WH7.tup WH7.gll (by intro z; cases z)) WH7.tup, C8 _ _ n12 WH7.dll, WH7.hds.chgL WH7.gll C8, upd_same, hts_nil⟩
        have s8 := same_chg fl2 (s6.trans s7) C8
        have hfr8 := C8 _ _ l2fr.symm (s7 _ _ hfr)
        generalize upd H7 l2 (.lst []) = H8 at W8 s8 hfr8 ⊢
        (try (walk_at "WP")); (try (refine seq_out hR_ ?_)); (try (refine seq_in fun R_ hR_ => ?_)); (try (walk_at "WP"))
        refine ⟨ha, l1, l2, ins, us, ds, [], [], rfl, W8, hD, by omega, i12, by decide, (fun g h => by cases h), fun H9 s9 => ?_⟩
        rw [show mz (goD (dpW ins ds) []) = 0 from rfl]
        try walk_at "WP"
        refine ⟨ha, l1, l2, ins, us, ds, [], [], rfl, W8.same s9, hD, by omega, i12, fun fo H10 nfo s10 hfo => ?_⟩
        have s810 := s9.trans s10
        try walk_at "WP"
        refine neLI (ns := dpW ins ds) (ms := dpW ins ds) (SqL.of hfo) (SqL.of (s810 _ _ hfr8)) ?_
        try walk_at "WP"
        refine ⟨ha, l1, l2, ins, us, ds, [], [], rfl, W8.same s810, hD, by omega, i1, i12, fun la ps H11 nla nps s11 L11 => ?_⟩
        try walk_at "WP"
        refine ⟨la, fr, ins, ds, rfl, L11.ll, s11 _ _ (s810 _ _ hfr8), hD, i1, by omega, fun H12 s12 => ?_⟩
        try walk_at "WP"
        exact hN2 _ _ ⟨_, _, _, _, _, _, _, _, _, _, _, _, rfl, (s0.trans s02).trans (s8.trans ((s810.trans s11).trans s12))⟩
    · rintro σ H1 ⟨o1, o2, o3, o4, o5, o6, o7, o8, o9, o10, o11, o12, rfl, s1⟩
      exact hN _ _ ⟨o1, o2, o3, o4, o5, o6, o7, o8, o9, o10, o11, o12, rfl, s1⟩
  · rintro σ H1 ⟨o1, o2, o3, o4, o5, o6, o7, o8, o9, o10, o11, o12, rfl, s1⟩
    refine seq_in fun R_ hR_ => ?_
    try walk_at "WP"
    have jR : ∀ H', Same H1 H' → (∀ i, i < (rngV 0 60).length → (Itr 0 60).go i H') ∧ (∀ i x H2, (Itr 0 60).yld i H' x H2 → H2 = H' ∧ (i < (rngV 0 60).length → (rngV 0 60)[i]? = some x)) ∧ (Itr 0 60).stop (rngV 0 60).length H' := fun H' _ => by
      rw [rngV_len]
      exact ⟨fun i hi => hi, fun i x H2 y => ⟨y.1, fun hi => by rw [rngV_get hi, y.2]⟩, Nat.le_refl _⟩
    refine comp_tups (f := wTup) (xs := rngV 0 60) chDs (by rw [rngV_len]; rfl) (by rw [rngV_len]; decide) jR (fun j v d H' R hv hd s' hR' => ?_) (fun cl cs H2 ncl s2 hcl hcs => ?_)
    · obtain ⟨rfl, hj⟩ := chDs_at hd
      rw [rngV_get hj] at hv
      cases hv
      try walk_at "WP"
      rw [show (0 : Int) + (j : Int) = (j : Int) by omega]
      exact fun r nr => hR' r _ nr (same_new nr _) upd_same
    try walk_at "WP"
    intro t1 nt1
    have s3' := same_new nt1 (.tup [V.int 59, V.int 0, V.int 1])
    have ht1 : upd H2 t1 (.tup [V.int 59, V.int 0, V.int 1]) t1 = some (.tup (gTp ⟨59, 0, 1⟩)) := upd_same
    have hcl := s3' _ _ hcl
    have hcs := hcs.same s3'
    generalize upd H2 t1 (.tup [V.int 59, V.int 0, V.int 1]) = H3 at ht1 hcl hcs ⊢
    intro gl ngl
    have s4' := same_new ngl (.lst [V.ref t1])
    have hgl : upd H3 gl (.lst [V.ref t1]) gl = some (.lst [V.ref t1]) := upd_same
    have hcl := s4' _ _ hcl
    have hcs := hcs.same s4'
    have ht1 := s4' _ _ ht1
    generalize upd H3 gl (.lst [V.ref t1]) = H4 at ht1 hgl hcl hcs ⊢
    intro ch nch
    have s5' := same_new nch (.tup [V.int 1, V.ref cl, V.ref gl])
    have WC : Wb (upd H4 ch (.tup [V.int 1, V.ref cl, V.ref gl])) ch cl gl 1 cs chDs [V.ref t1] [⟨59, 0, 1⟩] := ⟨upd_same, s5' _ _ hcl, hcs.same s5', s5' _ _ hgl, (hts_nil (f := gTp) (H := upd H4 ch (.tup [V.int 1, V.ref cl, V.ref gl]))).snoc (s5' _ _ ht1)⟩
    generalize upd H4 ch (.tup [V.int 1, V.ref cl, V.ref gl]) = H5 at WC ⊢
    (try (walk_at "WP")); (try (refine seq_out hR_ ?_)); (try (refine seq_in fun R_ hR_ => ?_)); (try (walk_at "WP"))
    refine ⟨ch, cl, gl, 1, cs, chDs, _, _, rfl, WC, chDs_ok, by decide, by decide, fun fo H6 nfo s6 hfo => ?_⟩
    rw [ch_dp] at hfo
    try walk_at "WP"
    refine ⟨61, rfl, by decide, fun li H7 nli s7 hli => ?_⟩
    have er : rngV 0 61 = ((List.range 61).map fun (i : Nat) => (i : Int)).map V.int := by decide +kernel
    rw [er] at hli
    refine neLI (SqL.of (s7 _ _ hfo)) (SqL.of hli) ?_
    try walk_at "WP"
    refine ⟨ch, cl, gl, 1, cs, chDs, _, _, rfl, (WC.same s6).same s7, chDs_ok, by decide, by decide, by decide, fun g hg => by rw [List.mem_singleton.mp hg]; decide, fun H8 s8 => ?_⟩
    rw [ch_go]
    (try (walk_at "WP")); (try (refine seq_out hR_ ?_)); (try (refine seq_in fun R_ hR_ => ?_)); (try (walk_at "WP"))
    refine ⟨ch, cl, gl, 1, cs, chDs, _, _, rfl, ((WC.same s6).same s7).same s8, chDs_ok, by decide, by decide, by decide, fun la ps H9 nla nps s9 L9 => ?_⟩
    rw [ch_lay] at L9
    try walk_at "WP"
    refine comp_rowsD (by decide) (fun i => [(i : Int)]) (fun i H' R hi s' hR' => ?_) (fun tt2 qs H10 ntt nqs s10 L10 => ?_)
    · try walk_at "WP"
      rw [show (0 : Int) + (i : Int) = (i : Int) by omega]
      exact fun r nr => hR' r _ nr (same_new nr _) upd_same
    refine eq_LL (L9.same s10).ll L10.ll ?_
    exact q _
end

theorem ln1 {α : Type} {us : List α} (h : us.length = 1) : ∃ a0, us = [a0] := match us, h with | [a0], _ => ⟨a0, rfl⟩
theorem ln2 {α : Type} {us : List α} (h : us.length = 2) : ∃ a0 a1, us = [a0, a1] := match us, h with | [a0, a1], _ => ⟨a0, a1, rfl⟩
theorem all_mk {l : PySem.W.OpenLaw} {w : World} {K : PySem.W.Frag} {h : Heap} {mg : Str → Option Value} {fa : Addr} (X : K.In h) (G : h.Ns mainGlobals mg) (hfa : mg "law" = some (.ref fa))
    {f1 : Addr} {od1 an1 : Option Addr} {sl1 : Array (Option Value)} {oc1 kV1 dc1 pm1 cd1 ct1 : Value} {f2 : Addr} {od2 an2 : Option Addr} {sl2 : Array (Option Value)} {oc2 kV2 dc2 pm2 cd2 ct2 : Value} {f3 : Addr} {od3 an3 : Option Addr} {sl3 : Array (Option Value)} {oc3 kV3 dc3 pm3 cd3 ct3 : Value} {f4 : Addr} {od4 an4 : Option Addr} {sl4 : Array (Option Value)} {oc4 kV4 dc4 pm4 cd4 ct4 : Value} {f5 : Addr} {od5 an5 : Option Addr} {sl5 : Array (Option Value)} {oc5 kV5 dc5 pm5 cd5 ct5 : Value} {f6 : Addr} {od6 an6 : Option Addr} {sl6 : Array (Option Value)} {oc6 kV6 dc6 pm6 cd6 ct6 : Value} {f7 : Addr} {od7 an7 : Option Addr} {sl7 : Array (Option Value)} {oc7 kV7 dc7 pm7 cd7 ct7 : Value} {f8 : Addr} {od8 an8 : Option Addr} {sl8 : Array (Option Value)} {oc8 kV8 dc8 pm8 cd8 ct8 : Value} {f9 : Addr} {od9 an9 : Option Addr} {sl9 : Array (Option Value)} {oc9 kV9 dc9 pm9 cd9 ct9 : Value} {f10 : Addr} {od10 an10 : Option Addr} {sl10 : Array (Option Value)} {oc10 kV10 dc10 pm10 cd10 ct10 : Value} {f11 : Addr} {od11 an11 : Option Addr} {sl11 : Array (Option Value)} {oc11 kV11 dc11 pm11 cd11 ct11 : Value} {f12 : Addr} {od12 an12 : Option Addr} {sl12 : Array (Option Value)} {oc12 kV12 dc12 pm12 cd12 ct12 : Value} {f13 : Addr} {od13 an13 : Option Addr} {sl13 : Array (Option Value)} {oc13 kV13 dc13 pm13 cd13 ct13 : Value} {f14 : Addr} {od14 an14 : Option Addr} {sl14 : Array (Option Value)} {oc14 kV14 dc14 pm14 cd14 ct14 : Value} {f15 : Addr} {od15 an15 : Option Addr} {sl15 : Array (Option Value)} {oc15 kV15 dc15 pm15 cd15 ct15 : Value} {f16 : Addr} {od16 an16 : Option Addr} {sl16 : Array (Option Value)} {oc16 kV16 dc16 pm16 cd16 ct16 : Value} {f17 : Addr} {od17 an17 : Option Addr} {sl17 : Array (Option Value)} {oc17 kV17 dc17 pm17 cd17 ct17 : Value}
    (a1 : PySem.W.nsIn K mainGlobals "second_sign" = some (some (.ref f1))) (l1 : K.lookup f1 = some ⟨oc1, od1, .func (PySem.W.fnOf "second_sign" "second_sign" (defArgs s_second_sign) (defBody s_second_sign) (defScope s_second_sign) .none kV1 dc1 pm1 an1 cd1 ct1), sl1⟩) (c1 : PySem.W.codeIn K cd1 "second_sign" = true) (k1 : PySem.W.keepIn K (.ref f1) = true)
    (a2 : PySem.W.nsIn K mainGlobals "deed_arrows" = some (some (.ref f2))) (l2 : K.lookup f2 = some ⟨oc2, od2, .func (PySem.W.fnOf "deed_arrows" "deed_arrows" (defArgs s_deed_arrows) (defBody s_deed_arrows) (defScope s_deed_arrows) .none kV2 dc2 pm2 an2 cd2 ct2), sl2⟩) (c2 : PySem.W.codeIn K cd2 "deed_arrows" = true) (k2 : PySem.W.keepIn K (.ref f2) = true)
    (a3 : PySem.W.nsIn K mainGlobals "thing_count" = some (some (.ref f3))) (l3 : K.lookup f3 = some ⟨oc3, od3, .func (PySem.W.fnOf "thing_count" "thing_count" (defArgs s_thing_count) (defBody s_thing_count) (defScope s_thing_count) .none kV3 dc3 pm3 an3 cd3 ct3), sl3⟩) (c3 : PySem.W.codeIn K cd3 "thing_count" = true) (k3 : PySem.W.keepIn K (.ref f3) = true)
    (a4 : PySem.W.nsIn K mainGlobals "depths" = some (some (.ref f4))) (l4 : K.lookup f4 = some ⟨oc4, od4, .func (PySem.W.fnOf "depths" "depths" (defArgs s_depths) (defBody s_depths) (defScope s_depths) .none kV4 dc4 pm4 an4 cd4 ct4), sl4⟩) (c4 : PySem.W.codeIn K cd4 "depths" = true) (k4 : PySem.W.keepIn K (.ref f4) = true)
    (a5 : PySem.W.nsIn K mainGlobals "depth" = some (some (.ref f5))) (l5 : K.lookup f5 = some ⟨oc5, od5, .func (PySem.W.fnOf "depth" "depth" (defArgs s_depth) (defBody s_depth) (defScope s_depth) .none kV5 dc5 pm5 an5 cd5 ct5), sl5⟩) (c5 : PySem.W.codeIn K cd5 "depth" = true) (k5 : PySem.W.keepIn K (.ref f5) = true)
    (a6 : PySem.W.nsIn K mainGlobals "layers" = some (some (.ref f6))) (l6 : K.lookup f6 = some ⟨oc6, od6, .func (PySem.W.fnOf "layers" "layers" (defArgs s_layers) (defBody s_layers) (defScope s_layers) .none kV6 dc6 pm6 an6 cd6 ct6), sl6⟩) (c6 : PySem.W.codeIn K cd6 "layers" = true) (k6 : PySem.W.keepIn K (.ref f6) = true)
    (a7 : PySem.W.nsIn K mainGlobals "_law_feed" = some (some (.ref f7))) (l7 : K.lookup f7 = some ⟨oc7, od7, .func (PySem.W.fnOf "_law_feed" "_law_feed" (defArgs s_l_feed) (defBody s_l_feed) (defScope s_l_feed) .none kV7 dc7 pm7 an7 cd7 ct7), sl7⟩) (c7 : PySem.W.codeIn K cd7 "_law_feed" = true) (k7 : PySem.W.keepIn K (.ref f7) = true)
    (a8 : PySem.W.nsIn K mainGlobals "_law_take" = some (some (.ref f8))) (l8 : K.lookup f8 = some ⟨oc8, od8, .func (PySem.W.fnOf "_law_take" "_law_take" (defArgs s_l_take) (defBody s_l_take) (defScope s_l_take) .none kV8 dc8 pm8 an8 cd8 ct8), sl8⟩) (c8 : PySem.W.codeIn K cd8 "_law_take" = true) (k8 : PySem.W.keepIn K (.ref f8) = true)
    (a9 : PySem.W.nsIn K mainGlobals "_law_low" = some (some (.ref f9))) (l9 : K.lookup f9 = some ⟨oc9, od9, .func (PySem.W.fnOf "_law_low" "_law_low" (defArgs s_l_low) (defBody s_l_low) (defScope s_l_low) .none kV9 dc9 pm9 an9 cd9 ct9), sl9⟩) (c9 : PySem.W.codeIn K cd9 "_law_low" = true) (k9 : PySem.W.keepIn K (.ref f9) = true)
    (a10 : PySem.W.nsIn K mainGlobals "_law_moved" = some (some (.ref f10))) (l10 : K.lookup f10 = some ⟨oc10, od10, .func (PySem.W.fnOf "_law_moved" "_law_moved" (defArgs s_l_moved) (defBody s_l_moved) (defScope s_l_moved) .none kV10 dc10 pm10 an10 cd10 ct10), sl10⟩) (c10 : PySem.W.codeIn K cd10 "_law_moved" = true) (k10 : PySem.W.keepIn K (.ref f10) = true)
    (a11 : PySem.W.nsIn K mainGlobals "_law_shift" = some (some (.ref f11))) (l11 : K.lookup f11 = some ⟨oc11, od11, .func (PySem.W.fnOf "_law_shift" "_law_shift" (defArgs s_l_shift) (defBody s_l_shift) (defScope s_l_shift) .none kV11 dc11 pm11 an11 cd11 ct11), sl11⟩) (c11 : PySem.W.codeIn K cd11 "_law_shift" = true) (k11 : PySem.W.keepIn K (.ref f11) = true)
    (a12 : PySem.W.nsIn K mainGlobals "_law_picked" = some (some (.ref f12))) (l12 : K.lookup f12 = some ⟨oc12, od12, .func (PySem.W.fnOf "_law_picked" "_law_picked" (defArgs s_l_picked) (defBody s_l_picked) (defScope s_l_picked) .none kV12 dc12 pm12 an12 cd12 ct12), sl12⟩) (c12 : PySem.W.codeIn K cd12 "_law_picked" = true) (k12 : PySem.W.keepIn K (.ref f12) = true)
    (a13 : PySem.W.nsIn K mainGlobals "_law_web" = some (some (.ref f13))) (l13 : K.lookup f13 = some ⟨oc13, od13, .func (PySem.W.fnOf "_law_web" "_law_web" (defArgs s_l_web) (defBody s_l_web) (defScope s_l_web) .none kV13 dc13 pm13 an13 cd13 ct13), sl13⟩) (c13 : PySem.W.codeIn K cd13 "_law_web" = true) (k13 : PySem.W.keepIn K (.ref f13) = true)
    (a14 : PySem.W.nsIn K mainGlobals "_law_reached" = some (some (.ref f14))) (l14 : K.lookup f14 = some ⟨oc14, od14, .func (PySem.W.fnOf "_law_reached" "_law_reached" (defArgs s_l_reached) (defBody s_l_reached) (defScope s_l_reached) .none kV14 dc14 pm14 an14 cd14 ct14), sl14⟩) (c14 : PySem.W.codeIn K cd14 "_law_reached" = true) (k14 : PySem.W.keepIn K (.ref f14) = true)
    (a15 : PySem.W.nsIn K mainGlobals "_law_whole" = some (some (.ref f15))) (l15 : K.lookup f15 = some ⟨oc15, od15, .func (PySem.W.fnOf "_law_whole" "_law_whole" (defArgs s_l_whole) (defBody s_l_whole) (defScope s_l_whole) .none kV15 dc15 pm15 an15 cd15 ct15), sl15⟩) (c15 : PySem.W.codeIn K cd15 "_law_whole" = true) (k15 : PySem.W.keepIn K (.ref f15) = true)
    (a16 : PySem.W.nsIn K mainGlobals "_law_are_layers" = some (some (.ref f16))) (l16 : K.lookup f16 = some ⟨oc16, od16, .func (PySem.W.fnOf "_law_are_layers" "_law_are_layers" (defArgs s_l_are_layers) (defBody s_l_are_layers) (defScope s_l_are_layers) .none kV16 dc16 pm16 an16 cd16 ct16), sl16⟩) (c16 : PySem.W.codeIn K cd16 "_law_are_layers" = true) (k16 : PySem.W.keepIn K (.ref f16) = true)
    (a17 : PySem.W.nsIn K mainGlobals "law" = some (some (.ref f17))) (l17 : K.lookup f17 = some ⟨oc17, od17, .func (PySem.W.fnOf "law" "law" (defArgs s_law) (defBody s_law) (defScope s_law) .none kV17 dc17 pm17 an17 cd17 ct17), sl17⟩) (c17 : PySem.W.codeIn K cd17 "law" = true) (k17 : PySem.W.keepIn K (.ref f17) = true)
    (z1 : PySem.W.nsIn K mainGlobals "abs" = some none)
    (z2 : PySem.W.nsIn K mainGlobals "all" = some none)
    (z3 : PySem.W.nsIn K mainGlobals "any" = some none)
    (z4 : PySem.W.nsIn K mainGlobals "bool" = some none)
    (z5 : PySem.W.nsIn K mainGlobals "enumerate" = some none)
    (z6 : PySem.W.nsIn K mainGlobals "int" = some none)
    (z7 : PySem.W.nsIn K mainGlobals "isinstance" = some none)
    (z8 : PySem.W.nsIn K mainGlobals "len" = some none)
    (z9 : PySem.W.nsIn K mainGlobals "list" = some none)
    (z10 : PySem.W.nsIn K mainGlobals "max" = some none)
    (z11 : PySem.W.nsIn K mainGlobals "min" = some none)
    (z12 : PySem.W.nsIn K mainGlobals "range" = some none)
    (z13 : PySem.W.nsIn K mainGlobals "set" = some none)
    (z14 : PySem.W.nsIn K mainGlobals "sorted" = some none)
    (z15 : PySem.W.nsIn K mainGlobals "zip" = some none)
    : ∃ fd : FuncData, (∀ (s : Shared) (v : Value), BindsTo s fd ⟨[v], []⟩ [("_law_script", v)]) ∧ ∀ base : Heap, K.In base → base.Ns mainGlobals mg → FnOk l.prog w K mg base CX0 20 fa fd ["_law_script"] (spLaw K) := by
  have e := hfa.symm.trans (PySem.W.mg_of X G a17)
  cases e
  have F1 := fun_mk (st := s_second_sign) l1 c1 k1
  have b1 := F1.binds (ps := ["deed"]) fun _ _ _ _ _ _ us hl => by obtain ⟨a0_, rfl⟩ := ln1 (us := us) hl; rfl
  have F2 := fun_mk (st := s_deed_arrows) l2 c2 k2
  have b2 := F2.binds (ps := ["web"]) fun _ _ _ _ _ _ us hl => by obtain ⟨a0_, rfl⟩ := ln1 (us := us) hl; rfl
  have F3 := fun_mk (st := s_thing_count) l3 c3 k3
  have b3 := F3.binds (ps := ["web"]) fun _ _ _ _ _ _ us hl => by obtain ⟨a0_, rfl⟩ := ln1 (us := us) hl; rfl
  have F4 := fun_mk (st := s_depths) l4 c4 k4
  have b4 := F4.binds (ps := ["web"]) fun _ _ _ _ _ _ us hl => by obtain ⟨a0_, rfl⟩ := ln1 (us := us) hl; rfl
  have F5 := fun_mk (st := s_depth) l5 c5 k5
  have b5 := F5.binds (ps := ["web"]) fun _ _ _ _ _ _ us hl => by obtain ⟨a0_, rfl⟩ := ln1 (us := us) hl; rfl
  have F6 := fun_mk (st := s_layers) l6 c6 k6
  have b6 := F6.binds (ps := ["web"]) fun _ _ _ _ _ _ us hl => by obtain ⟨a0_, rfl⟩ := ln1 (us := us) hl; rfl
  have F7 := fun_mk (st := s_l_feed) l7 c7 k7
  have b7 := F7.binds (ps := ["_law_script", "_law_k"]) fun _ _ _ _ _ _ us hl => by obtain ⟨a0_, a1_, rfl⟩ := ln2 (us := us) hl; rfl
  have F8 := fun_mk (st := s_l_take) l8 c8 k8
  have b8 := F8.binds (ps := ["_law_feed_here", "_law_many"]) fun _ _ _ _ _ _ us hl => by obtain ⟨a0_, a1_, rfl⟩ := ln2 (us := us) hl; rfl
  have F9 := fun_mk (st := s_l_low) l9 c9 k9
  have b9 := F9.binds (ps := ["_law_row"]) fun _ _ _ _ _ _ us hl => by obtain ⟨a0_, rfl⟩ := ln1 (us := us) hl; rfl
  have F10 := fun_mk (st := s_l_moved) l10 c10 k10
  have b10 := F10.binds (ps := ["_law_row", "_law_shift_here"]) fun _ _ _ _ _ _ us hl => by obtain ⟨a0_, a1_, rfl⟩ := ln2 (us := us) hl; rfl
  have F11 := fun_mk (st := s_l_shift) l11 c11 k11
  have b11 := F11.binds (ps := ["_law_feed_here", "_law_row"]) fun _ _ _ _ _ _ us hl => by obtain ⟨a0_, a1_, rfl⟩ := ln2 (us := us) hl; rfl
  have F12 := fun_mk (st := s_l_picked) l12 c12 k12
  have b12 := F12.binds (ps := ["_law_feed_here", "_law_many"]) fun _ _ _ _ _ _ us hl => by obtain ⟨a0_, a1_, rfl⟩ := ln2 (us := us) hl; rfl
  have F13 := fun_mk (st := s_l_web) l13 c13 k13
  have b13 := F13.binds (ps := ["_law_feed_here", "_law_most"]) fun _ _ _ _ _ _ us hl => by obtain ⟨a0_, a1_, rfl⟩ := ln2 (us := us) hl; rfl
  have F14 := fun_mk (st := s_l_reached) l14 c14 k14
  have b14 := F14.binds (ps := ["_law_web_here"]) fun _ _ _ _ _ _ us hl => by obtain ⟨a0_, rfl⟩ := ln1 (us := us) hl; rfl
  have F15 := fun_mk (st := s_l_whole) l15 c15 k15
  have b15 := F15.binds (ps := ["_law_thing"]) fun _ _ _ _ _ _ us hl => by obtain ⟨a0_, rfl⟩ := ln1 (us := us) hl; rfl
  have F16 := fun_mk (st := s_l_are_layers) l16 c16 k16
  have b16 := F16.binds (ps := ["_law_found", "_law_far"]) fun _ _ _ _ _ _ us hl => by obtain ⟨a0_, a1_, rfl⟩ := ln2 (us := us) hl; rfl
  have F17 := fun_mk (st := s_law) l17 c17 k17
  have b17 := F17.binds (ps := ["_law_script"]) fun _ _ _ _ _ _ us hl => by obtain ⟨a0_, rfl⟩ := ln1 (us := us) hl; rfl
  have T : Txt K mg := ⟨⟨PySem.W.mg_none_of X G z1, PySem.W.mg_none_of X G z2, PySem.W.mg_none_of X G z3, PySem.W.mg_none_of X G z4, PySem.W.mg_none_of X G z5, PySem.W.mg_none_of X G z6, PySem.W.mg_none_of X G z7, PySem.W.mg_none_of X G z8, PySem.W.mg_none_of X G z9, PySem.W.mg_none_of X G z10, PySem.W.mg_none_of X G z11, PySem.W.mg_none_of X G z12, PySem.W.mg_none_of X G z13, PySem.W.mg_none_of X G z14, PySem.W.mg_none_of X G z15⟩, ⟨_, _, F1, PySem.W.mg_of X G a1, b1⟩, ⟨_, _, F2, PySem.W.mg_of X G a2, b2⟩, ⟨_, _, F3, PySem.W.mg_of X G a3, b3⟩, ⟨_, _, F4, PySem.W.mg_of X G a4, b4⟩, ⟨_, _, F5, PySem.W.mg_of X G a5, b5⟩, ⟨_, _, F6, PySem.W.mg_of X G a6, b6⟩, ⟨_, _, F7, PySem.W.mg_of X G a7, b7⟩, ⟨_, _, F8, PySem.W.mg_of X G a8, b8⟩, ⟨_, _, F9, PySem.W.mg_of X G a9, b9⟩, ⟨_, _, F10, PySem.W.mg_of X G a10, b10⟩, ⟨_, _, F11, PySem.W.mg_of X G a11, b11⟩, ⟨_, _, F12, PySem.W.mg_of X G a12, b12⟩, ⟨_, _, F13, PySem.W.mg_of X G a13, b13⟩, ⟨_, _, F14, PySem.W.mg_of X G a14, b14⟩, ⟨_, _, F15, PySem.W.mg_of X G a15, b15⟩, ⟨_, _, F16, PySem.W.mg_of X G a16, b16⟩, ⟨_, _, F17, PySem.W.mg_of X G a17, b17⟩⟩
  refine ⟨PySem.W.fnOf "law" "law" (defArgs s_law) (defBody s_law) (defScope s_law) .none kV17 dc17 pm17 an17 cd17 ct17, fun s v => .of_eq rfl, fun base _ _ => ?_⟩
  exact ok_law T F17
theorem walk {l : PySem.W.OpenLaw} {q : Program} {loose : List Str} {XP : (Str → Option Value) → Heap → Prop} {YP : World → Heap → Prop} {d : DefRec} {K : Params → PySem.W.Frag} (hn : l.most = some 63) (hdf : d.params.defaults = [])
    (hY : ∀ (w : World) (h : Heap), YP w h → (K w.params).In h)
    (F : ∀ (w : World) (mg : Str → Option Value) (fa : Addr) (h : Heap), (K w.params).In h → h.Ns mainGlobals mg → mg d.name = some (.ref fa) →
      ∃ fd : FuncData, (∀ (s : Shared) (u : Value), BindsTo s fd ⟨[u], []⟩ [("_law_script", u)]) ∧ ∀ base : Heap, (K w.params).In base → base.Ns mainGlobals mg → FnOk l.prog w (K w.params) mg base CX0 20 fa fd ["_law_script"] (spLaw (K w.params))) :
    PySem.W.WalkO q loose XP YP l.row.toRowW d [] (fun f vs => PySem.call f vs) :=
  L2.walk_of (n := 63) (k := 20) (x := "_law_script") (CX := fun _ => CX0) (sp := fun w => spLaw (K w.params)) hn (by decide) hdf ⟨rfl, by decide, by decide⟩ hY F (fun _ _ a ns hl hO hS => ⟨a, ns, rfl, scr_of hO hS, hl, fun _ => rfl⟩) fun _ _ _ _ _ z => z
end Law
open PySem PySem.W PyProof.Rows
set_option maxRecDepth 100000 in
set_option maxHeartbeats 0 in
theorem PySem.Challenge.cw_shiftsums_k16_depths_and_layers_holds : PySem.Challenge.rw_shiftsums_k16_depths_and_layers.Holds := by
  w_on; o_law; k_head; (case hw => w_witness2)
  k_fill
  refine Law.walk (l := PySem.Challenge.rw_shiftsums_k16_depths_and_layers) rfl rfl (fun w h Y => PySem.W.kIn_of Y) ?F
  case F =>
    intro w mg fa h KX G hmg
    refine' Law.all_mk KX G hmg ?a1 ?l1 ?c1 ?k1 ?a2 ?l2 ?c2 ?k2 ?a3 ?l3 ?c3 ?k3 ?a4 ?l4 ?c4 ?k4 ?a5 ?l5 ?c5 ?k5 ?a6 ?l6 ?c6 ?k6 ?a7 ?l7 ?c7 ?k7 ?a8 ?l8 ?c8 ?k8 ?a9 ?l9 ?c9 ?k9 ?a10 ?l10 ?c10 ?k10 ?a11 ?l11 ?c11 ?k11 ?a12 ?l12 ?c12 ?k12 ?a13 ?l13 ?c13 ?k13 ?a14 ?l14 ?c14 ?k14 ?a15 ?l15 ?c15 ?k15 ?a16 ?l16 ?c16 ?k16 ?a17 ?l17 ?c17 ?k17 ?z1 ?z2 ?z3 ?z4 ?z5 ?z6 ?z7 ?z8 ?z9 ?z10 ?z11 ?z12 ?z13 ?z14 ?z15
    (case a1 => k_is); (case l1 => k_is); (case c1 => k_is); (case k1 => k_is)
    (case a2 => k_is); (case l2 => k_is); (case c2 => k_is); (case k2 => k_is)
    (case a3 => k_is); (case l3 => k_is); (case c3 => k_is); (case k3 => k_is)
    (case a4 => k_is); (case l4 => k_is); (case c4 => k_is); (case k4 => k_is)
    (case a5 => k_is); (case l5 => k_is); (case c5 => k_is); (case k5 => k_is)
    (case a6 => k_is); (case l6 => k_is); (case c6 => k_is); (case k6 => k_is)
    (case a7 => k_is); (case l7 => k_is); (case c7 => k_is); (case k7 => k_is)
    (case a8 => k_is); (case l8 => k_is); (case c8 => k_is); (case k8 => k_is)
    (case a9 => k_is); (case l9 => k_is); (case c9 => k_is); (case k9 => k_is)
    (case a10 => k_is); (case l10 => k_is); (case c10 => k_is); (case k10 => k_is)
    (case a11 => k_is); (case l11 => k_is); (case c11 => k_is); (case k11 => k_is)
    (case a12 => k_is); (case l12 => k_is); (case c12 => k_is); (case k12 => k_is)
    (case a13 => k_is); (case l13 => k_is); (case c13 => k_is); (case k13 => k_is)
    (case a14 => k_is); (case l14 => k_is); (case c14 => k_is); (case k14 => k_is)
    (case a15 => k_is); (case l15 => k_is); (case c15 => k_is); (case k15 => k_is)
    (case a16 => k_is); (case l16 => k_is); (case c16 => k_is); (case k16 => k_is)
    (case a17 => k_is); (case l17 => k_is); (case c17 => k_is); (case k17 => k_is)
    (case z1 => k_is); (case z2 => k_is); (case z3 => k_is); (case z4 => k_is)
    (case z5 => k_is); (case z6 => k_is); (case z7 => k_is); (case z8 => k_is)
    (case z9 => k_is); (case z10 => k_is); (case z11 => k_is); (case z12 => k_is)
    (case z13 => k_is); (case z14 => k_is); (case z15 => k_is)
end
