import PyProof.Rows.All
import Wide.All
import OpenK.AllK
import Wide.FinOn
import Lean
import PyProof.EqAt
import PyProof.EqKinds
import PyProof.TupleCall
import PyProof.NeKinds
import KE.KMinBuiltin
import PyProof.Rows.CallKwBuiltin
import KE.KDictList
import PyProof.ZipIter
import PyProof.EnumFor
import PyProof.EnumMake
import PyProof.EnumStmt
import PyProof.Rows.Range3
import KE.KItemsList
import PyProof.ListRange
import KE.KIsAll
import PyProof.TupleIter
import PyProof.StationsW
import OpenK.KOwn
import PyProof.RulesDel
import PyProof.ExcArgsOwn
import PyProof.ExcAttrAll.ValueError
import KE.IntBitsLaws
import PyProof.IsRules
import PySem.Challenge.RW_shiftsums_k41_joins_refused
section
set_option Elab.async false
set_option linter.all false
set_option maxRecDepth 100000
namespace L2
open PySem PySem.Spec PyProof.Rows
abbrev Key := Sum Int Str
def keyIs : Key → Value → Bool
  | .inl k, v => Value.isInt k v
  | .inr x, v => Value.isStrOf x v
def keyH (w : World) : Key → Int
  | .inl k => hashInt k
  | .inr x => hashStr w x
theorem keyIs_shape : ∀ {k : Key} {v : Value}, keyIs k v = true → (∃ i t, k = Sum.inl i ∧ v = Value.int i t) ∨ (∃ x t, k = Sum.inr x ∧ v = Value.str x t)
  | .inl i, v, h => by
    obtain ⟨t, e⟩ := Value.isInt_shape (k := i) (v := v) h
    exact .inl ⟨i, t, rfl, e⟩
  | .inr x, v, h => by
    obtain ⟨t, e⟩ := Value.isStrOf_shape (x := x) (v := v) h
    exact .inr ⟨x, t, rfl, e⟩
theorem key_ll (a b : Int) : decide ((Sum.inl a : Key) = Sum.inl b) = (a == b) := by
  by_cases e : a = b
  · subst e; simp
  · have h : ¬ (Sum.inl a : Key) = Sum.inl b := fun q => e (Sum.inl.inj q)
    rw [decide_eq_false h]
    exact (beq_eq_false_iff_ne.mpr e).symm
theorem key_rr (a b : Str) : decide ((Sum.inr a : Key) = Sum.inr b) = decide (a = b) := by
  by_cases e : a = b
  · subst e; simp
  · have h : ¬ (Sum.inr a : Key) = Sum.inr b := fun q => e (Sum.inr.inj q)
    rw [decide_eq_false h, decide_eq_false e]
theorem key_lr (a : Int) (b : Str) : decide ((Sum.inl a : Key) = Sum.inr b) = false := decide_eq_false (fun q => nomatch q)
theorem key_rl (a : Str) (b : Int) : decide ((Sum.inr a : Key) = Sum.inl b) = false := decide_eq_false (fun q => nomatch q)
def mixKind (prog : Program) (w : World) : PySem.KeyKind prog w Key where
  is := keyIs
  hash := keyH w
  inj := fun v a b ha hb => by
    rcases keyIs_shape ha with ⟨i, t, rfl, rfl⟩ | ⟨x, t, rfl, rfl⟩
    · rcases keyIs_shape hb with ⟨j, u, rfl, e⟩ | ⟨y, u, rfl, e⟩
      · injection e with e1 _; rw [e1]
      · exact nomatch e
    · rcases keyIs_shape hb with ⟨j, u, rfl, e⟩ | ⟨y, u, rfl, e⟩
      · exact nomatch e
      · injection e with e1 _; rw [e1]
  byValue := fun k v h => by
    rcases keyIs_shape h with ⟨i, t, rfl, rfl⟩ | ⟨x, t, rfl, rfl⟩ <;> rfl
  pyHash := fun hv h => by
    rcases keyIs_shape hv with ⟨i, t, rfl, rfl⟩ | ⟨x, t, rfl, rfl⟩
    · exact wpAny_pyHash_int h
    · exact wpAny_pyHash_str h
  eqBool := fun hu hv h => by
    rcases keyIs_shape hu with ⟨i, t, rfl, rfl⟩ | ⟨x, t, rfl, rfl⟩
    · rcases keyIs_shape hv with ⟨j, u, rfl, rfl⟩ | ⟨y, u, rfl, rfl⟩
      · rw [key_ll] at h; exact wpAny_eqBool_int h
      · rw [key_lr] at h; exact SeqAt.EqAt.int_str i t y u _ _ _ _ h
    · rcases keyIs_shape hv with ⟨j, u, rfl, rfl⟩ | ⟨y, u, rfl, rfl⟩
      · rw [key_rl] at h; exact SeqAt.EqAt.str_int x t j u _ _ _ _ h
      · rw [key_rr] at h; exact wpAny_eqBool_str h
  «strs» := fun k x t v h => by
    rcases keyIs_shape h with ⟨i, u, rfl, e⟩ | ⟨y, u, rfl, e⟩
    · exact nomatch e
    · injection e with e1 _
      subst e1
      cases v <;> rfl
end L2
namespace L2
open PySem PySem.Spec PyProof.Rows
inductive V where
  | non | bl (b : Bool) | int (i : Int) | str (x : Str) | byt (b : Array UInt8) | flt (b : UInt64) | ref (a : Addr) | ty (n : String)
  deriving DecidableEq
def RelV : V → Value → Prop
  | .non, u => u = Value.none
  | .bl b, u => u = Value.bool b
  | .int i, u => ∃ t, u = Value.int i t
  | .str x, u => ∃ t, u = Value.str x t
  | .byt b, u => ∃ t, u = Value.bytes b t
  | .flt b, u => ∃ t, u = Value.float b t
  | .ref a, u => u = Value.ref a
  | .ty n, u => u = Value.type n
abbrev Vals : List V → List Value → Prop := Paired RelV
theorem Vals.length {xs : List V} {us : List Value} (r : Vals xs us) : xs.length = us.length := Paired.length r
theorem Vals.get : ∀ {xs : List V} {us : List Value} {i : Nat} {x : V}, Vals xs us → xs[i]? = some x → ∃ u, us[i]? = some u ∧ RelV x u
  | _, _, _, _, .nil, e => by simp at e
  | _, _, 0, _, .cons r _, e => by simp at e; subst e; exact ⟨_, rfl, r⟩
  | _, _, i + 1, x, .cons _ t, e => by
    obtain ⟨u, h1, h2⟩ := Vals.get (i := i) (x := x) t (by simpa using e)
    exact ⟨u, by simpa using h1, h2⟩
theorem Vals.set {x : V} {u : Value} (r : RelV x u) : ∀ {xs : List V} {us : List Value} (i : Nat), Vals xs us → Vals (xs.set i x) (us.set i u)
  | _, _, _, .nil => .nil
  | _, _, 0, .cons _ t => .cons r t
  | _, _, i + 1, .cons q t => .cons q (Vals.set r i t)
theorem Vals.append : ∀ {xs ys : List V} {us ws : List Value}, Vals xs us → Vals ys ws → Vals (xs ++ ys) (us ++ ws)
  | _, _, _, _, .nil, s => s
  | _, _, _, _, .cons r t, s => .cons r (Vals.append t s)
def RelO : Option V → Option Value → Prop
  | some v, some u => RelV v u
  | none, none => True
  | _, _ => False
def KV {κ : Type} : List (κ × V) → List (κ × Value) → Prop := Paired fun (p : κ × V) (q : κ × Value) => p.1 = q.1 ∧ RelV p.2 q.2
def kV : Key → V
  | .inl i => .int i
  | .inr x => .str x
inductive HO where
  | lst (xs : List V)
  | tup (xs : List V)
  | dK (kvs : List (Key × V)) | dT (kvs : List (List Key × V))
  | set (S : Int → Bool) (n : Nat)
  | ins (C dx : Addr) (fs : List (Str × V))
  | own (x : Addr)
  | xd (fs : List (Str × V))
  | met (f x : Addr)
  | rng (lo hi : Int)
  | frz (o : Obj) (u : HO)
  | tbl (ps : Array Value)
  | ext (φ : Heap → Prop)
abbrev Hp := Addr → Option HO
def upd (H : Hp) (a : Addr) (o : HO) : Hp := fun b => if b = a then some o else H b
theorem upd_same {H : Hp} {a : Addr} {o : HO} : upd H a o a = some o := by unfold upd; rw [if_pos rfl]
theorem upd_ne {H : Hp} {a b : Addr} {o : HO} (h : b ≠ a) : upd H a o b = H b := by unfold upd; rw [if_neg h]
theorem ne_of {H : Hp} {a b : Addr} {o u : HO} (h : H a = some o) (h' : H b = some u) (d : o ≠ u) : a ≠ b := by
  intro e; subst e; rw [h] at h'; exact d (Option.some.inj h')
theorem ne_of_none {H : Hp} {a b : Addr} {o : HO} (h : H a = some o) (h' : H b = none) : a ≠ b := by
  intro e; subst e; rw [h] at h'; cases h'
section
variable (P : Program) (w : World)
def ObjOk (H : Hp) (h : Heap) (a : Addr) : HO → Prop
  | .lst xs => xs.length ≤ sizeLine ∧ ∃ (its : List Value) (n : Nat), Vals xs its ∧ h.get? a = some { cls := .type "list", data := .seq its.toArray n }
  | .tup xs => xs.length ≤ sizeLine ∧ ∃ its : List Value, Vals xs its ∧ IsTup h a its.toArray
  | .dK kvs => kvs.length ≤ sizeLine ∧ (a == sysModules) = false ∧ ∃ vs, KV kvs vs ∧ h.DictOf (mixKind P w) a vs
  | .dT kvs => kvs.length ≤ sizeLine ∧ (a == sysModules) = false ∧ ∃ xs : List (List Key × Addr × Value),
      Paired (fun (p : List Key × V) (q : List Key × Addr × Value) => p.1 = q.1 ∧ H q.2.1 = some (.tup (p.1.map kV)) ∧ RelV p.2 q.2.2) kvs xs ∧
      ∃ o es ep, h.get? a = some o ∧ o.ExactDict ∧ o.data = .dict es ep ∧ es.toList = xs.map (entryOfKey (tupleKind (mixKind P w))) ∧ (xs.map (·.1)).Nodup
  | .set S n => h.SetOf (intKind P w) a S n
  | .ins C dx fs => H dx = some (.own a) ∧ fs.length ≤ 1000 ∧ dx ≠ a ∧ h.get? a = some (PySem.W.instObj C dx) ∧
      ∃ mA, h.Ns1 dx mA ∧ (∀ f, RelO (fs.lookup f) (mA f)) ∧ PySem.Within mA (fs.map (·.1))
  | .own _ => ∃ o, h.get? a = some o
  | .xd fs => ∃ mA, h.Ns1 a mA ∧ ∀ f, RelO (fs.lookup f) (mA f)
  | .rng lo hi => ∃ t u v, h.get? a = some { cls := .type "range", data := .fields #[.int lo t, .int hi u, .int 1 v] }
  | .frz o u => h.get? a = some o ∧ ObjOk H h a u
  | .tbl ps => h.get? a = some { cls := .none, data := .fields ps }
  | .met f x => h.get? a = some (PySem.W.methodObj (.ref f) (.ref x))
  | .ext φ => φ h ∧ (∃ o, h.get? a = some o) ∧ ∀ h1 h2 : Heap, φ h1 → (∀ o, h1.get? a = some o → h2.get? a = some o) → φ h2
def HOk (H : Hp) (h : Heap) : Prop := ∀ a o, H a = some o → ObjOk P w H h a o
end
section
variable {P : Program} {w : World} {H H' : Hp} {h h' : Heap} {a : Addr} {o : HO}
theorem ObjOk.lt (x : ObjOk P w H h a o) : a < h.objs.size := by
  cases o with
  | lst xs => obtain ⟨_, _, _, _, e⟩ := x; exact Heap.lt_size e
  | tup xs => obtain ⟨_, _, _, p⟩ := x; exact p.lt
  | dK kvs => obtain ⟨_, _, _, _, o, _, _, e, _⟩ := x; exact Heap.lt_size e
  | dT kvs => obtain ⟨_, _, _, _, o, _, _, e, _⟩ := x; exact Heap.lt_size e
  | set S n => obtain ⟨o, _, _, _, e, _⟩ := x; exact Heap.lt_size e
  | ins C dx fs => obtain ⟨_, _, _, e, _⟩ := x; exact Heap.lt_size e
  | own y => obtain ⟨_, e⟩ := x; exact Heap.lt_size e
  | xd fs => obtain ⟨_, ⟨_, _, _, e, _⟩, _⟩ := x; exact Heap.lt_size e
  | rng lo hi => obtain ⟨_, _, _, e⟩ := x; exact Heap.lt_size e
  | frz ob u => obtain ⟨e, _⟩ := x; exact Heap.lt_size e
  | tbl ps => exact Heap.lt_size (show h.get? a = some _ from x)
  | met f y => exact Heap.lt_size (show h.get? a = some _ from x)
  | ext φ => obtain ⟨_, ⟨_, e⟩, _⟩ := x; exact Heap.lt_size e
theorem Paired.mapP {α β : Type} {F G : α → β → Prop} : ∀ {l₁ : List α} {l₂ : List β}, Paired F l₁ l₂ → (∀ a b, F a b → G a b) → Paired G l₁ l₂
  | _, _, .nil, _ => .nil
  | _, _, .cons r t, f => .cons (f _ _ r) (Paired.mapP t f)
theorem ObjOk.stay (x : ObjOk P w H h a o) (k : ∀ b u, (b = a ∨ H b = some (.own a)) → h.get? b = some u → h'.get? b = some u)
    (ho : ∀ b, H b = some (.own a) → H' b = some (.own a)) (ht : ∀ b xs, H b = some (.tup xs) → H' b = some (.tup xs)) : ObjOk P w H' h' a o := by
  induction o with
  | lst xs => obtain ⟨z, its, n, r, e⟩ := x; exact ⟨z, its, n, r, k _ _ (.inl rfl) e⟩
  | tup xs => obtain ⟨z, its, r, ob, e, c⟩ := x; exact ⟨z, its, r, ob, k _ _ (.inl rfl) e, c⟩
  | dK kvs => obtain ⟨z, y, vs, r, ob, es, ep, e, c⟩ := x; exact ⟨z, y, vs, r, ob, es, ep, k _ _ (.inl rfl) e, c⟩
  | dT kvs =>
    obtain ⟨z, y, xs, r, ob, es, ep, e, c⟩ := x
    exact ⟨z, y, xs, Paired.mapP r fun p q z => ⟨z.1, ht _ _ z.2.1, z.2.2⟩, ob, es, ep, k _ _ (.inl rfl) e, c⟩
  | set S n => obtain ⟨ob, es, ep, t, e, c⟩ := x; exact ⟨ob, es, ep, t, k _ _ (.inl rfl) e, c⟩
  | ins C dx fs =>
    obtain ⟨d, z, ne, e, mA, ⟨od, es, ep, e2, c⟩, r⟩ := x
    exact ⟨ho _ d, z, ne, k _ _ (.inl rfl) e, mA, ⟨od, es, ep, k _ _ (.inr d) e2, c⟩, r⟩
  | own y => obtain ⟨ob, e⟩ := x; exact ⟨ob, k _ _ (.inl rfl) e⟩
  | xd fs => obtain ⟨mA, ⟨od, es, ep, e, c⟩, r⟩ := x; exact ⟨mA, ⟨od, es, ep, k _ _ (.inl rfl) e, c⟩, r⟩
  | rng lo hi => obtain ⟨t, u, v, e⟩ := x; exact ⟨t, u, v, k _ _ (.inl rfl) e⟩
  | frz ob u ih => obtain ⟨e, q⟩ := x; exact ⟨k _ _ (.inl rfl) e, ih q⟩
  | tbl ps =>
    have e : h.get? a = some { cls := .none, data := .fields ps } := x
    show h'.get? a = some { cls := .none, data := .fields ps }
    exact k a _ (.inl rfl) e
  | met f y =>
    have e : h.get? a = some (PySem.W.methodObj (.ref f) (.ref y)) := x
    show h'.get? a = some (PySem.W.methodObj (.ref f) (.ref y))
    exact k a _ (.inl rfl) e
  | ext φ => obtain ⟨p, ⟨o, e⟩, st⟩ := x; exact ⟨st _ _ p fun o q => k _ _ (.inl rfl) q, ⟨o, k _ _ (.inl rfl) e⟩, st⟩
theorem HOk.lt (x : HOk P w H h) (e : H a = some o) : a < h.objs.size := (x a o e).lt
theorem HOk.fresh (x : HOk P w H h) (e : h.objs.size ≤ a) : H a = none := by
  cases q : H a with
  | none => rfl
  | some u => exact absurd (Nat.lt_of_lt_of_le (x.lt q) e) (Nat.lt_irrefl _)
theorem HOk.kept (x : HOk P w H h) (k : ∀ b u, h.get? b = some u → h'.get? b = some u) : HOk P w H h' := fun a o e =>
  (x a o e).stay (fun b u _ q => k b u q) (fun _ q => q) fun _ _ q => q
theorem HOk.laid (x : HOk P w H h) (k : ∀ b u, h.get? b = some u → h'.get? b = some u) (hp : h.objs.size ≤ a) (new : ObjOk P w (upd H a o) h' a o) : HOk P w (upd H a o) h' := fun b u e => by
  have hn := x.fresh hp
  by_cases hb : b = a
  · subst hb; rw [upd_same] at e; cases e; exact new
  · rw [upd_ne hb] at e
    exact (x b u e).stay (fun c v _ q => k c v q) (fun c q => by rw [upd_ne (ne_of_none q hn)]; exact q) fun c xs q => by rw [upd_ne (ne_of_none q hn)]; exact q
end
def Rd (H : Hp) (a : Addr) (u : HO) : Prop := H a = some u ∨ ∃ o, H a = some (.frz o u)
theorem Rd.ok {P : Program} {w : World} {H : Hp} {h : Heap} {a : Addr} {u : HO} (r : Rd H a u) (x : HOk P w H h) : ObjOk P w H h a u := by
  rcases r with r | ⟨o, r⟩
  · exact x a u r
  · obtain ⟨_, q⟩ := x a _ r
    exact q
def Mut : Option HO → Prop
  | some (.lst _) => True
  | some (.dK _) => True
  | some (.dT _) => True
  | some (.set _ _) => True
  | some (.ins _ _ _) => True
  | some (.ext _) => True
  | _ => False
section
variable {P : Program} {w : World} {H : Hp} {h h' : Heap} {x e : Addr} {o' : HO}
theorem HOk.write (ok : HOk P w H h) (mu : Mut (H x)) (he : e = x ∨ H e = some (.own x)) (k : ∀ b u, b ≠ e → h.get? b = some u → h'.get? b = some u) (heo : ∃ u, h'.get? e = some u)
    (new : ObjOk P w (upd H x o') h' x o') : HOk P w (upd H x o') h' := fun b u q => by
  have nown : ∀ c y, H c = some (.own y) → c ≠ x := fun c y r z => by subst z; rw [r] at mu; exact mu
  have ntup : ∀ c xs, H c = some (.tup xs) → c ≠ x := fun c xs r z => by subst z; rw [r] at mu; exact mu
  by_cases hb : b = x
  · subst hb; rw [upd_same] at q; cases q; exact new
  · rw [upd_ne hb] at q
    by_cases hbe : b = e
    · have q' : H b = some (.own x) := by
        rcases he with z | z
        · exact absurd (hbe.trans z) hb
        · rw [hbe]; exact z
      rw [q] at q'; cases q'
      obtain ⟨v, hv⟩ := heo
      exact ⟨v, by rw [hbe]; exact hv⟩
    · refine (ok b u q).stay (fun c v hc r => k c v ?_ r) (fun c r => by rw [upd_ne (nown c b r)]; exact r) fun c xs r => by rw [upd_ne (ntup c xs r)]; exact r
      rcases hc with rfl | hc
      · exact hbe
      · rintro rfl
        rcases he with z | z
        · exact nown c b hc z
        · rw [hc] at z; cases z; exact hb rfl
end
structure Un (fs ex : List Addr) (H H' : Hp) (h h' : Heap) : Prop where
  keep : ∀ b o, h.get? b = some o → H b = none → b ∉ fs → b ∉ ex → h'.get? b = some o
  slot : ∀ b o, h.get? b = some o → H b = none → b ∈ fs → b ∉ ex → ∃ sl, h'.get? b = some { o with slots := sl }
  free : ∀ b o, h.get? b = some o → H b = none → b ∉ ex → H' b = none
  there : ∀ b o, h.get? b = some o → b ∉ ex → ∃ o', h'.get? b = some o'
  tups : ∀ b xs, H b = some (.tup xs) → H' b = some (.tup xs)
  frzs : ∀ b o u, H b = some (.frz o u) → H' b = some (.frz o u)
  tbls : ∀ b ps, H b = some (.tbl ps) → ∃ more, H' b = some (.tbl (ps ++ more))
section
variable {fs fs' ex ex' : List Addr} {H H1 H2 : Hp} {h h1 h2 h' : Heap} {a x e : Addr} {o : HO}
theorem Un.any (u : Un fs ex H H1 h h1) {b : Addr} {ob : Obj} (q : h.get? b = some ob) (n : H b = none) (hx : b ∉ ex) : ∃ sl, h1.get? b = some { ob with slots := sl } := by
  by_cases hb : b ∈ fs
  · exact u.slot b ob q n hb hx
  · exact ⟨ob.slots, u.keep b ob q n hb hx⟩
theorem Un.kept (k : ∀ b u, h.get? b = some u → h'.get? b = some u) : Un fs ex H H h h' :=
  ⟨fun b ob q _ _ _ => k b ob q, fun b ob q _ _ _ => ⟨ob.slots, k b ob q⟩, fun _ _ _ n _ => n, fun b ob q _ => ⟨ob, k b ob q⟩, fun _ _ q => q, fun _ _ _ q => q, fun _ ps q => ⟨#[], by rw [q]; simp⟩⟩
theorem Un.refl : Un fs ex H H h h := Un.kept fun _ _ q => q
theorem Un.laid (k : ∀ b u, h.get? b = some u → h'.get? b = some u) (hp : h.objs.size ≤ a) (hn : H a = none) : Un fs ex H (upd H a o) h h' where
  keep := fun b u q _ _ _ => k b u q
  slot := fun b u q _ _ _ => ⟨u.slots, k b u q⟩
  free := fun b u q n _ => by rw [upd_ne (Nat.ne_of_lt (Nat.lt_of_lt_of_le (Heap.lt_size q) hp))]; exact n
  there := fun b u q _ => ⟨u, k b u q⟩
  tups := fun b xs q => by rw [upd_ne (ne_of_none q hn)]; exact q
  frzs := fun b u xs q => by rw [upd_ne (ne_of_none q hn)]; exact q
  tbls := fun b ps q => ⟨#[], by rw [upd_ne (ne_of_none q hn), q]; simp⟩
theorem Un.write (mu : Mut (H x)) (he : e = x ∨ H e = some (.own x)) (k : ∀ b u, b ≠ e → h.get? b = some u → h'.get? b = some u) (heo : ∃ u, h'.get? e = some u) : Un fs ex H (upd H x o) h h' := by
  have hx : ∀ b, H b = none → b ≠ x := fun b n z => by subst z; rw [n] at mu; exact mu
  have hb : ∀ b, H b = none → b ≠ e := fun b n z => by
    subst z
    rcases he with r | r
    · exact hx b n r
    · rw [n] at r; cases r
  have hm : ∀ b u, H b = some u → ¬ Mut (some u) → b ≠ x := fun b u q nm z => by subst z; rw [q] at mu; exact nm mu
  refine ⟨fun b u q n _ _ => k b u (hb b n) q, fun b u q n _ _ => ⟨u.slots, k b u (hb b n) q⟩, fun b u q n _ => by rw [upd_ne (hx b n)]; exact n, fun b u q _ => ?_,
    fun b xs q => by rw [upd_ne (hm b _ q fun z => z)]; exact q, fun b u xs q => by rw [upd_ne (hm b _ q fun z => z)]; exact q, fun b ps q => ⟨#[], by rw [upd_ne (hm b _ q fun z => z), q]; simp⟩⟩
  by_cases hbe : b = e
  · subst hbe; exact heo
  · exact ⟨u, k b u hbe q⟩
end
def trk (h : Heap) (H : Hp) : List Addr := (List.range h.objs.size).filter fun a => (H a).isSome
def hidT (h : Heap) (H : Hp) : Heap := PySem.W.hideAll h (trk h H)
theorem hidT_size (h : Heap) (H : Hp) : (hidT h H).objs.size = h.objs.size := PySem.W.hideAll_size _ _
theorem hidT_get {h : Heap} {H : Hp} {b : Addr} {o : Obj} (e : h.get? b = some o) (n : H b = none) : (hidT h H).get? b = some o :=
  PySem.W.hideAll_get _ e fun hm => by
    have q : (H b).isSome = true := (List.mem_filter.mp hm).2
    rw [n] at q; simp at q
theorem of_hidT {h : Heap} {H : Hp} {b : Addr} {o : Obj} (e : (hidT h H).get? b = some o) : h.get? b = some o ∧ H b = none := by
  have e' : h.get? b = some o := PySem.W.of_hideAll (trk h H) e
  refine ⟨e', ?_⟩
  cases q : H b with
  | none => rfl
  | some x =>
    have hm : b ∈ trk h H := List.mem_filter.mpr ⟨List.mem_range.mpr (Heap.lt_size e'), by simp [q]⟩
    have z : (hidT h H).get? b = none := PySem.W.hideAll_none (trk h H) hm
    rw [z] at e; cases e
def allNews (g h : Heap) (L : Addr) : List (Addr × Obj) := (List.range h.objs.size).filterMap fun a => if a = L ∨ (g.get? a).isSome = true then none else (h.get? a).map fun o => (a, o)
def rest (g h : Heap) (L d : Addr) : List (Addr × Obj) := (allNews g h L).filter fun p => decide (p.1 ≠ d)
end L2
namespace L2
open PySem PySem.Spec PyProof.Rows
structure Mod (K : PySem.W.Frag) (mg : Str → Option Value) (base : Heap) : Prop where
  kin : K.In base
  glob : base.Ns mainGlobals mg
  blt : ∃ mb, base.Ns builtinsNs mb ∧ ∀ x : Str, x ≠ "__name__" → mb x = bootBuiltins x
  nolimit : base.NoLimit
structure Cx where
  prog : Program
  w : World
  K : PySem.W.Frag
  mg : Str → Option Value
  base : Heap
  A : Around
  N : List Str
  s₀ : Shared
  H₀ : Hp
  env : Env
  outer : List Env
  stack : List Env
  ex : List Addr
  fn : Str → Bool
  calm : Bool
  pn : List (Addr × Obj)
  xe : Value → Shared → Prop
def frs (l : List Env) : List Addr := l.filterMap (·.frame)
abbrev Cx.fs (X : Cx) : List Addr := frs X.outer
def Vis (sc : Scope) (x : Str) : Prop := sc.names.lookup x = some .local ∨ sc.names.lookup x = some .cell ∨ sc.names.lookup x = some .free
def Loc (sc : Scope) (x : Str) : Prop := sc.names.lookup x = some .local ∨ sc.names.lookup x = some .cell
def Look (env : Env) (h : Heap) (m : Str → Option Value) (x : Str) (u : Value) : Prop :=
  (env.kindOf x = some .local ∧ m x = some u) ∨ ((env.kindOf x = some .cell ∨ env.kindOf x = some .free) ∧ ∃ c, env.cells.lookup x = some c ∧ h.IsCell c (some u))
structure Cx.Ok (X : Cx) : Prop where
  mod : Mod X.K X.mg X.base
  kind : X.env.scope.kind = .function
  glob : X.env.globals = mainGlobals
  blt : X.env.builtins = builtinsNs
  above : X.s₀.heap.objs.size ≤ X.env.locals
  inj : ∀ x y c, X.env.cells.lookup x = some c → X.env.cells.lookup y = some c → x = y
  has : ∀ x, (X.env.kindOf x = some .cell ∨ X.env.kindOf x = some .free) → ∃ c, X.env.cells.lookup x = some c
  cab : ∀ x c, X.fn x = true → X.env.cells.lookup x = some c → X.s₀.heap.objs.size ≤ c
  hd : X.calm = true → X.A.handled = none
  frames : X.A.frames = some X.stack
  stk : X.stack = X.outer ∨ (X.stack = X.env :: X.outer ∧ X.env.frame = some X.env.locals)
  exf : ∀ b ∈ X.ex, b ≠ X.env.locals ∧ ∀ x c, X.env.cells.lookup x = some c → c ≠ b
  bs : ∀ b o, X.base.get? b = some o → X.s₀.heap.get? b = some o ∧ X.H₀ b = none
  bsz : X.base.objs.size ≤ X.s₀.heap.objs.size
  noex : ∀ b o, X.base.get? b = some o → b ∉ X.ex
  exfs : ∀ b ∈ X.ex, b ∉ X.fs
  funs : X.s₀.heap.FunFrames X.base X.outer
  frf : ∀ b ∈ X.fs, X.H₀ b = none
structure Inv (X : Cx) (pins : List (Addr × Obj)) (σ : List (Option V)) (H : Hp) (s : Shared) : Prop where
  ok : X.Ok
  os : s.os = X.s₀.os
  bare : AllBare s.gens
  base : Un X.fs X.ex X.H₀ H X.s₀.heap s.heap
  loc : ∃ m, s.heap.Ns X.env.locals m ∧ ∀ (i : Nat) (x : Str) (v : V), X.N[i]? = some x → σ[i]? = some (some v) → Vis X.env.scope x → ∃ u, RelV v u ∧ Look X.env s.heap m x u
  cell : ∀ x c, X.env.cells.lookup x = some c → ∃ v, s.heap.IsCell c v
  free : H X.env.locals = none
  freeC : ∀ x c, X.env.cells.lookup x = some c → H c = none
  pin : ∀ p ∈ X.pn ++ pins, s.heap.get? p.1 = some p.2 ∧ H p.1 = none ∧ p.1 ≠ X.env.locals ∧ p.1 ∉ X.fs ∧ ∀ v, p.2.data ≠ .cell v
  hok : HOk X.prog X.w H s.heap
  len : σ.length = X.N.length
section
variable {X : Cx} {pins : List (Addr × Obj)} {σ : List (Option V)} {H H' : Hp} {s : Shared} {h' : Heap}
theorem Cx.Ok.nofr (ok : X.Ok) {b : Addr} {o : Obj} (e : X.base.get? b = some o) : b ∉ X.fs := fun hb => by
  have := (ok.funs.mem hb).1
  rw [e] at this; cases this
theorem Inv.bs (I : Inv X pins σ H s) : ∀ b o, X.base.get? b = some o → s.heap.get? b = some o ∧ H b = none := fun b o e =>
  ⟨I.base.keep b o (I.ok.bs b o e).1 (I.ok.bs b o e).2 (I.ok.nofr e) (I.ok.noex b o e), I.base.free b o (I.ok.bs b o e).1 (I.ok.bs b o e).2 (I.ok.noex b o e)⟩
theorem Inv.bk (I : Inv X pins σ H s) : ∀ b o, X.base.get? b = some o → s.heap.get? b = some o := fun b o e => (I.bs b o e).1
theorem Inv.mod (I : Inv X pins σ H s) : Mod X.K X.mg X.base := I.ok.mod
theorem Inv.kIn (I : Inv X pins σ H s) : X.K.In s.heap := I.ok.mod.kin.keeps I.bk
theorem Inv.lt (I : Inv X pins σ H s) : X.env.locals < s.heap.objs.size := let ⟨_, hn, _⟩ := I.loc; hn.lt
theorem Inv.sz (I : Inv X pins σ H s) : X.s₀.heap.objs.size ≤ s.heap.objs.size := Nat.le_trans I.ok.above (Nat.le_of_lt I.lt)
theorem Inv.nofs (I : Inv X pins σ H s) {a : Addr} (h : s.heap.objs.size ≤ a) : a ∉ X.fs := fun hb => by
  obtain ⟨_, o, ho, _⟩ := I.ok.funs.mem hb
  exact absurd (Nat.lt_of_lt_of_le (Heap.lt_size ho) (Nat.le_trans I.sz h)) (Nat.lt_irrefl _)
theorem Inv.cne (I : Inv X pins σ H s) : ∀ x c, X.env.cells.lookup x = some c → c ≠ X.env.locals := fun x c e z => by
  obtain ⟨v, o, ho, hd⟩ := I.cell x c e
  obtain ⟨m, ⟨o', es, ep, ho', hd', _⟩, _⟩ := I.loc
  rw [z, ho'] at ho; cases ho; rw [hd'] at hd; cases hd
theorem Inv.funs (I : Inv X pins σ H s) : s.heap.FunFrames X.base X.outer := by
  have all : ∀ (l : List Env), (∀ b ∈ frs l, b ∈ X.fs) → X.s₀.heap.FunFrames X.base l → s.heap.FunFrames X.base l := by
    intro l
    induction l with
    | nil => intro _ _; trivial
    | cons env r ih =>
      intro hs hl
      obtain ⟨hk, ⟨L, o, hf, hn, ho, hd⟩, hr⟩ := hl
      have hL : L ∈ X.fs := hs L (by unfold frs; rw [List.filterMap_cons, hf]; exact List.mem_cons_self)
      obtain ⟨sl, e⟩ := I.base.slot L o ho (I.ok.frf L hL) hL fun z => I.ok.exfs L z hL
      exact ⟨hk, ⟨L, _, hf, hn, e, hd⟩, ih (fun b hb => hs b (by unfold frs; rw [List.filterMap_cons, hf]; exact List.mem_cons_of_mem _ hb)) hr⟩
  exact all X.outer (fun _ hb => hb) I.ok.funs
theorem Inv.stack (I : Inv X pins σ H s) : s.heap.FunFrames X.base X.stack := by
  rcases I.ok.stk with e | ⟨e, hf⟩
  · rw [e]; exact I.funs
  · rw [e]
    obtain ⟨m, hn, _⟩ := I.loc
    refine .cons (by rw [I.ok.kind]; decide) hf hn ?_ I.funs
    exact Heap.get?_none_of_le (Nat.le_trans I.ok.bsz I.ok.above)
theorem Inv.stkSub (I : Inv X pins σ H s) : ∀ b ∈ frs X.stack, b ∈ X.env.locals :: X.fs := fun b hb => by
  rcases I.ok.stk with e | ⟨e, hf⟩
  · rw [e] at hb; exact List.mem_cons_of_mem _ hb
  · rw [e] at hb
    unfold frs at hb
    rw [List.filterMap_cons, hf] at hb
    exact hb
theorem Inv.stkFree (I : Inv X pins σ H s) : ∀ b ∈ frs X.stack, H b = none := fun b hb => by
  rcases List.mem_cons.mp (I.stkSub b hb) with e | hb
  · rw [e]; exact I.free
  · obtain ⟨_, o, ho, _⟩ := I.ok.funs.mem hb
    exact I.base.free b o ho (I.ok.frf b hb) fun z => I.ok.exfs b z hb
theorem Inv.step {g' : Array GenState} {t' : Nat} {d' : Drawn} {ch : List Addr} (I : Inv X pins σ H s)
    (hch : ∀ b ∈ ch, (b ∈ X.ex ∨ X.s₀.heap.objs.size ≤ b) ∧ b ≠ X.env.locals ∧ (∀ x c, X.env.cells.lookup x = some c → c ≠ b) ∧ ∀ p ∈ X.pn ++ pins, p.1 ≠ b)
    (keep : ∀ b o, b ≠ X.env.locals → b ∉ X.fs → b ∉ ch → s.heap.get? b = some o → H b = none → h'.get? b = some o)
    (slot : ∀ b o, b ≠ X.env.locals → b ∈ X.fs → b ∉ ch → s.heap.get? b = some o → H b = none → ∃ sl, h'.get? b = some { o with slots := sl }) (free : ∀ b o, b ∉ ch → s.heap.get? b = some o → H b = none → H' b = none)
    (there : ∀ b o, b ∉ ch → s.heap.get? b = some o → ∃ o', h'.get? b = some o')
    (tups : ∀ b xs, H b = some (.tup xs) → H' b = some (.tup xs)) (frzs : ∀ b o u, H b = some (.frz o u) → H' b = some (.frz o u)) (tbls : ∀ b ps, H b = some (.tbl ps) → ∃ more, H' b = some (.tbl (ps ++ more)))
    (ns : ∀ m, s.heap.Ns X.env.locals m → h'.Ns X.env.locals m) (hok : HOk X.prog X.w H' h') (hg : AllBare g') :
    Inv X pins σ H' { s with heap := h', gens := g', drawn := d', toks := t' } := by
  have neL : ∀ b o, X.s₀.heap.get? b = some o → b ≠ X.env.locals := fun b o e => Nat.ne_of_lt (Nat.lt_of_lt_of_le (Heap.lt_size e) I.ok.above)
  have neC : ∀ b o, X.s₀.heap.get? b = some o → b ∉ X.ex → b ∉ ch := fun b o e hx hb => by
    rcases (hch b hb).1 with z | z
    · exact hx z
    · exact absurd (Nat.lt_of_lt_of_le (Heap.lt_size e) z) (Nat.lt_irrefl _)
  have cellK : ∀ x c, X.env.cells.lookup x = some c → ∀ v, s.heap.IsCell c v → h'.IsCell c v := fun x c e v ⟨o, ho, hd⟩ => by
    have nch : c ∉ ch := fun z => (hch c z).2.2.1 x c e rfl
    by_cases hc : c ∈ X.fs
    · obtain ⟨sl, q⟩ := slot c o (I.cne x c e) hc nch ho (I.freeC x c e)
      exact ⟨_, q, hd⟩
    · exact ⟨o, keep c o (I.cne x c e) hc nch ho (I.freeC x c e), hd⟩
  refine ⟨I.ok, I.os, hg, ⟨fun b o e n hb hx => ?_, fun b o e n hb hx => ?_, fun b o e n hx => ?_, fun b o e hx => ?_, fun b xs e => tups b xs (I.base.tups b xs e), fun b o xs e => frzs b o xs (I.base.frzs b o xs e), fun b ps e => ?_⟩, ?_, fun x c e => ?_, ?_, fun x c e => ?_, fun p hp => ?_, hok, I.len⟩
  · exact keep b o (neL b o e) hb (neC b o e hx) (I.base.keep b o e n hb hx) (I.base.free b o e n hx)
  · obtain ⟨sl, e1⟩ := I.base.slot b o e n hb hx
    obtain ⟨sl', e2⟩ := slot b _ (neL b o e) hb (neC b o e hx) e1 (I.base.free b o e n hx)
    exact ⟨sl', e2⟩
  · obtain ⟨o', e1⟩ := I.base.there b o e hx
    exact free b o' (neC b o e hx) e1 (I.base.free b o e n hx)
  · obtain ⟨o', e1⟩ := I.base.there b o e hx
    exact there b o' (neC b o e hx) e1
  · obtain ⟨m1, e1⟩ := I.base.tbls b ps e
    obtain ⟨m2, e2⟩ := tbls b _ e1
    exact ⟨m1 ++ m2, by rw [e2, Array.append_assoc]⟩
  · obtain ⟨m, hn, hl⟩ := I.loc
    refine ⟨m, ns m hn, fun i x v e1 e2 e3 => ?_⟩
    obtain ⟨u, r, l⟩ := hl i x v e1 e2 e3
    refine ⟨u, r, ?_⟩
    rcases l with l | ⟨k, c, e, z⟩
    · exact .inl l
    · exact .inr ⟨k, c, e, cellK x c e _ z⟩
  · obtain ⟨v, z⟩ := I.cell x c e
    exact ⟨v, cellK x c e v z⟩
  · obtain ⟨m, ⟨o, _, _, ho, _⟩, _⟩ := I.loc
    exact free _ o (fun z => (hch _ z).2.1 rfl) ho I.free
  · obtain ⟨v, o, ho, hd⟩ := I.cell x c e
    exact free c o (fun z => (hch c z).2.2.1 x c e rfl) ho (I.freeC x c e)
  · obtain ⟨e, n, ne, nf, d⟩ := I.pin p hp
    have nch : p.1 ∉ ch := fun z => (hch p.1 z).2.2.2 p hp rfl
    exact ⟨keep p.1 p.2 ne nf nch e n, free p.1 p.2 nch e n, ne, nf, d⟩
theorem Inv.un {t' : Nat} (I : Inv X pins σ H s) (u : Un X.fs [] H H' s.heap h') (hok : HOk X.prog X.w H' h') : Inv X pins σ H' { s with heap := h', toks := t' } := by
  obtain ⟨m, ⟨o, es, ep, ho, r⟩, _⟩ := id I.loc
  obtain ⟨sl, hL⟩ := u.any ho I.free (by simp)
  exact I.step (g' := s.gens) (d' := s.drawn) (ch := []) (fun _ z => nomatch z) (fun b o _ hb _ e n => u.keep b o e n hb (by simp)) (fun b o _ hb _ e n => u.slot b o e n hb (by simp)) (fun b o _ e n => u.free b o e n (by simp)) (fun b o _ e => u.there b o e (by simp)) u.tups u.frzs u.tbls (fun m' hm => by
    obtain ⟨o', es', ep', ho', r'⟩ := hm
    rw [ho] at ho'; cases ho'
    exact ⟨_, es', ep', hL, r'⟩) hok I.bare
theorem Inv.call {g' : Array GenState} {t' : Nat} {d' : Drawn} {ch : List Addr} (I : Inv X pins σ H s) (u : Un (frs X.stack) ch H H' s.heap h') (hok : HOk X.prog X.w H' h') (hg : AllBare g')
    (hch : ∀ b ∈ ch, (b ∈ X.ex ∨ X.s₀.heap.objs.size ≤ b) ∧ b ≠ X.env.locals ∧ (∀ x c, X.env.cells.lookup x = some c → c ≠ b) ∧ ∀ p ∈ X.pn ++ pins, p.1 ≠ b) :
    Inv X pins σ H' { s with heap := h', gens := g', drawn := d', toks := t' } := by
  obtain ⟨m, ⟨o, es, ep, ho, r⟩, _⟩ := id I.loc
  obtain ⟨sl, hL⟩ := u.any ho I.free fun z => (hch _ z).2.1 rfl
  exact I.step (ch := ch) hch (fun b o hL hb hc e n => u.keep b o e n (fun z => (List.mem_cons.mp (I.stkSub b z)).elim hL hb) hc) (fun b o _ _ hc e n => u.any e n hc) (fun b o hc e n => u.free b o e n hc) (fun b o hc e => u.there b o e hc) u.tups u.frzs u.tbls (fun m' hm => by
    obtain ⟨o', es', ep', ho', r'⟩ := hm
    rw [ho] at ho'; cases ho'
    exact ⟨_, es', ep', hL, r'⟩) hok hg
theorem Inv.turned {t' : Nat} {it : Addr} (I : Inv X pins σ H s) (k : ∀ b o, b ≠ it → s.heap.get? b = some o → h'.get? b = some o) (hn : H it = none) (hL : it ≠ X.env.locals)
    (h1 : it ∈ X.ex ∨ X.s₀.heap.objs.size ≤ it) (h2 : ∀ x c, X.env.cells.lookup x = some c → c ≠ it) (h3 : ∀ p ∈ X.pn ++ pins, p.1 ≠ it) : Inv X pins σ H { s with heap := h', toks := t' } := by
  have nit : ∀ b u, H b = some u → b ≠ it := fun b u e z => by rw [z, hn] at e; cases e
  refine I.step (g' := s.gens) (d' := s.drawn) (ch := [it]) (fun b hb => ?_) (fun b o _ _ hc e _ => k b o (fun z => hc (by simp [z])) e) (fun b o _ _ hc e _ => ⟨o.slots, k b o (fun z => hc (by simp [z])) e⟩) (fun _ _ _ _ n => n)
    (fun b o hc e => ⟨o, k b o (fun z => hc (by simp [z])) e⟩) (fun _ _ e => e) (fun _ _ _ e => e) (fun b ps e => ⟨#[], by rw [e]; simp⟩) (fun m hm => ?_) (fun b u e => ?_) I.bare
  · have e : b = it := by simpa using hb
    subst e
    exact ⟨h1, hL, h2, h3⟩
  · obtain ⟨o, es, ep, ho, r⟩ := hm
    exact ⟨o, es, ep, k _ o (Ne.symm hL) ho, r⟩
  · refine (I.hok b u e).stay (fun c v hc q => k c v ?_ q) (fun _ q => q) fun _ _ q => q
    rcases hc with z | z
    · rw [z]; exact nit b u e
    · exact nit c _ z
theorem Inv.tok (I : Inv X pins σ H s) (t : Nat) : Inv X pins σ H { s with toks := t } := I.un (h' := s.heap) (t' := t) Un.refl I.hok
theorem Inv.kept {t' : Nat} (I : Inv X pins σ H s) (k : ∀ b u, s.heap.get? b = some u → h'.get? b = some u) : Inv X pins σ H { s with heap := h', toks := t' } := I.un (Un.kept k) (I.hok.kept k)
theorem Inv.laid {a : Addr} {o : HO} {t' : Nat} (I : Inv X pins σ H s) (k : ∀ b u, s.heap.get? b = some u → h'.get? b = some u) (hp : s.heap.objs.size ≤ a) (new : ObjOk X.prog X.w (upd H a o) h' a o) :
    Inv X pins σ (upd H a o) { s with heap := h', toks := t' } := I.un (Un.laid k hp (I.hok.fresh hp)) (I.hok.laid k hp new)
theorem Inv.write {x e : Addr} {o : HO} {t' : Nat} (I : Inv X pins σ H s) (mu : Mut (H x)) (he : e = x ∨ H e = some (.own x)) (k : ∀ b u, b ≠ e → s.heap.get? b = some u → h'.get? b = some u) (heo : ∃ u, h'.get? e = some u)
    (new : ObjOk X.prog X.w (upd H x o) h' x o) : Inv X pins σ (upd H x o) { s with heap := h', toks := t' } := I.un (Un.write mu he k heo) (I.hok.write mu he k heo new)
theorem Inv.pins_of {pins' : List (Addr × Obj)} (I : Inv X pins σ H s) (h : ∀ p ∈ pins', s.heap.get? p.1 = some p.2 ∧ H p.1 = none ∧ p.1 ≠ X.env.locals ∧ p.1 ∉ X.fs ∧ ∀ v, p.2.data ≠ .cell v) : Inv X pins' σ H s :=
  ⟨I.ok, I.os, I.bare, I.base, I.loc, I.cell, I.free, I.freeC, fun p hp => (List.mem_append.mp hp).elim (fun z => I.pin p (List.mem_append_left _ z)) (h p), I.hok, I.len⟩
theorem nodup_ix {N : List Str} (hN : N.Nodup) {i j : Nat} {x : Str} (a : N[i]? = some x) (b : N[j]? = some x) : i = j := by
  obtain ⟨h1, e1⟩ := List.getElem?_eq_some_iff.mp a
  obtain ⟨h2, e2⟩ := List.getElem?_eq_some_iff.mp b
  exact (List.getElem_inj hN).mp (e1.trans e2.symm)
theorem store_ok2 {M : Model} {A : Around} {E : Value → Shared → Prop} {i : Nat} {x : Str} {v : V} {u : Value} {Q : Unit → Shared → Prop} (I : Inv X pins σ H s) (hN : X.N.Nodup) (hi : X.N[i]? = some x) (hx : Loc X.env.scope x) (r : RelV v u)
    (h : ∀ s', Inv X pins (σ.set i (some v)) H s' → (∃ a, Heap.SameBut a s.heap s'.heap ∧ (a = X.env.locals ∨ X.env.cells.lookup x = some a)) → Q () s') (hf : X.fn x = true ∨ X.env.scope.names.lookup x = some .local := by first | exact .inl rfl | exact .inr rfl | assumption) : wpAny M A (storeName X.env x u) Q E s := by
  obtain ⟨m, hn, hl⟩ := id I.loc
  have hcls : (X.env.scope.kind == .class || (X.env.scope.kind == .module && X.env.locals != X.env.globals)) = false := by rw [I.ok.kind]; rfl
  have hiσ : i < σ.length := by rw [I.len]; exact (List.getElem?_eq_some_iff.mp hi).1
  have cne := I.cne
  have tracked : ∀ {a : Addr} {h' : Heap}, (∃ o, s.heap.get? a = some o ∧ H a = none) → Heap.SameBut a s.heap h' → HOk X.prog X.w H h' := fun {a h'} ha hs b ob e => by
    obtain ⟨_, _, hfree⟩ := ha
    refine (I.hok b ob e).stay (fun c w' hc q => (hs.2 c ?_).trans q) (fun _ q => q) fun _ _ q => q
    rintro rfl
    rcases hc with rfl | hc
    · rw [hfree] at e; cases e
    · rw [hfree] at hc; cases hc
  rcases hx with hk | hk
  · refine wpAny_storeName_local hk hn (fun h' hn' hs => ?_) hcls
    obtain ⟨oL, _, _, hoL, _⟩ := id hn
    refine h _ ⟨I.ok, I.os, I.bare, ⟨fun b o e n hb hx => ?_, fun b o e n hb hx => ?_, I.base.free, fun b o e hx => ?_, I.base.tups, I.base.frzs, I.base.tbls⟩, ⟨_, hn', fun j y v' e1 e2 e3 => ?_⟩, fun y c e => ?_, I.free, I.freeC, fun p hp => ?_, tracked ⟨oL, hoL, I.free⟩ hs, by simpa using I.len⟩ ⟨_, hs, .inl rfl⟩
    · exact (hs.2 b (Nat.ne_of_lt (Nat.lt_of_lt_of_le (Heap.lt_size e) I.ok.above))).trans (I.base.keep b o e n hb hx)
    · obtain ⟨sl, e1⟩ := I.base.slot b o e n hb hx
      exact ⟨sl, (hs.2 b (Nat.ne_of_lt (Nat.lt_of_lt_of_le (Heap.lt_size e) I.ok.above))).trans e1⟩
    · obtain ⟨o', e1⟩ := I.base.there b o e hx
      exact ⟨o', (hs.2 b (Nat.ne_of_lt (Nat.lt_of_lt_of_le (Heap.lt_size e) I.ok.above))).trans e1⟩
    · by_cases hj : j = i
      · subst hj
        rw [hi] at e1; cases e1
        rw [List.getElem?_set_self hiσ] at e2
        cases e2
        exact ⟨u, r, .inl ⟨hk, by simp⟩⟩
      · rw [List.getElem?_set_ne (Ne.symm hj)] at e2
        obtain ⟨u', r', q⟩ := hl j y v' e1 e2 e3
        refine ⟨u', r', ?_⟩
        rcases q with ⟨k, e⟩ | ⟨k, c, e, z⟩
        · refine .inl ⟨k, ?_⟩
          have : y ≠ x := fun e => hj (nodup_ix hN e1 (e ▸ hi))
          simp [this, e]
        · exact .inr ⟨k, c, e, z.sameBut hs (cne y c e)⟩
    · obtain ⟨w', z⟩ := I.cell y c e
      exact ⟨w', z.sameBut hs (cne y c e)⟩
    · obtain ⟨e, n, ne, nf, d⟩ := I.pin p hp
      exact ⟨(hs.2 p.1 ne).trans e, n, ne, nf, d⟩
  · have hfn : X.fn x = true := by
      rcases hf with z | z
      · exact z
      · rw [z] at hk; cases hk
    obtain ⟨c, hc⟩ := I.ok.has x (.inl hk)
    obtain ⟨w', z⟩ := I.cell x c hc
    refine wpAny_storeName_cell I.ok.kind hk hc z (fun h' hc' hs => ?_)
    obtain ⟨oc, hoc, hocd⟩ := id z
    refine h { s with heap := h' } ⟨I.ok, I.os, I.bare, ⟨fun b o e n hb hx => ?_, fun b o e n hb hx => ?_, I.base.free, fun b o e hx => ?_, I.base.tups, I.base.frzs, I.base.tbls⟩, ⟨m, hn.sameBut hs (Ne.symm (cne x c hc)), fun j y v' e1 e2 e3 => ?_⟩, fun y c' e => ?_, I.free, I.freeC, fun p hp => ?_, tracked ⟨oc, hoc, I.freeC x c hc⟩ hs, by simpa using I.len⟩ ⟨c, hs, .inr hc⟩
    · exact (hs.2 b (Nat.ne_of_lt (Nat.lt_of_lt_of_le (Heap.lt_size e) (I.ok.cab x c hfn hc)))).trans (I.base.keep b o e n hb hx)
    · obtain ⟨sl, e1⟩ := I.base.slot b o e n hb hx
      exact ⟨sl, (hs.2 b (Nat.ne_of_lt (Nat.lt_of_lt_of_le (Heap.lt_size e) (I.ok.cab x c hfn hc)))).trans e1⟩
    · obtain ⟨o', e1⟩ := I.base.there b o e hx
      exact ⟨o', (hs.2 b (Nat.ne_of_lt (Nat.lt_of_lt_of_le (Heap.lt_size e) (I.ok.cab x c hfn hc)))).trans e1⟩
    · by_cases hj : j = i
      · subst hj
        rw [hi] at e1; cases e1
        rw [List.getElem?_set_self hiσ] at e2
        cases e2
        exact ⟨u, r, .inr ⟨.inl hk, c, hc, hc'⟩⟩
      · rw [List.getElem?_set_ne (Ne.symm hj)] at e2
        obtain ⟨u', r', q⟩ := hl j y v' e1 e2 e3
        refine ⟨u', r', ?_⟩
        rcases q with q | ⟨k, c', e, z'⟩
        · exact .inl q
        · refine .inr ⟨k, c', e, z'.sameBut hs ?_⟩
          rintro rfl
          exact hj (nodup_ix hN e1 (I.ok.inj _ _ _ e hc ▸ hi))
    · by_cases hcc : c' = c
      · subst hcc; exact ⟨_, hc'⟩
      · obtain ⟨w2, z2⟩ := I.cell y c' e
        exact ⟨w2, z2.sameBut hs hcc⟩
    · obtain ⟨e, n, ne, nf, d⟩ := I.pin p hp
      refine ⟨(hs.2 p.1 ?_).trans e, n, ne, nf, d⟩
      intro q
      rw [q, hoc] at e
      have q' : oc = p.2 := Option.some.inj e
      exact d w' (by rw [← q']; exact hocd)
theorem store_ok {M : Model} {A : Around} {E : Value → Shared → Prop} {i : Nat} {x : Str} {v : V} {u : Value} {Q : Unit → Shared → Prop} (I : Inv X pins σ H s) (hN : X.N.Nodup) (hi : X.N[i]? = some x) (hx : Loc X.env.scope x) (r : RelV v u)
    (h : ∀ s', Inv X pins (σ.set i (some v)) H s' → Q () s') (hf : X.fn x = true ∨ X.env.scope.names.lookup x = some .local := by first | exact .inl rfl | exact .inr rfl | assumption) : wpAny M A (storeName X.env x u) Q E s :=
  store_ok2 I hN hi hx r (fun s' I' _ => h s' I') hf
theorem Inv.call' {s' : Shared} {ch : List Addr} (I : Inv X pins σ H s) (ho : s'.os = s.os) (u : Un (frs X.stack) ch H H' s.heap s'.heap) (hok : HOk X.prog X.w H' s'.heap) (hg : AllBare s'.gens)
    (hch : ∀ b ∈ ch, (b ∈ X.ex ∨ X.s₀.heap.objs.size ≤ b) ∧ b ≠ X.env.locals ∧ (∀ x c, X.env.cells.lookup x = some c → c ≠ b) ∧ ∀ p ∈ X.pn ++ pins, p.1 ≠ b) : Inv X pins σ H' s' := by
  obtain ⟨h', g', d', t', o'⟩ := s'
  have e : o' = s.os := ho
  subst e
  exact I.call (g' := g') (t' := t') (d' := d') u hok hg hch
end
abbrev XK := Value → Option Addr → Hp → Prop
abbrev St := List (Option V)
abbrev VK := V → Hp → Prop
abbrev TE := St → Hp → VK → Prop
abbrev TT := St → Hp → (Bool → Hp → Prop) → Prop
abbrev TA := St → Hp → (List V → Hp → Prop) → Prop
structure Ends where
  nx : St → Hp → Prop
  rt : VK
  bk : St → Hp → Prop := fun _ _ => False
  ct : St → Hp → Prop := fun _ _ => False
abbrev TS := Ends → St → Hp → Prop
def EP (X : Cx) (pins : List (Addr × Obj)) (σ : St) (Q : VK) (u : Value) (s' : Shared) : Prop := ∃ v H', Inv X pins σ H' s' ∧ RelV v u ∧ Q v H'
def TP (X : Cx) (pins : List (Addr × Obj)) (σ : St) (Q : Bool → Hp → Prop) (b : Bool) (s' : Shared) : Prop := ∃ H', Inv X pins σ H' s' ∧ Q b H'
def AP (X : Cx) (pins : List (Addr × Obj)) (σ : St) (Q : List V → Hp → Prop) (us : List Value) (s' : Shared) : Prop := ∃ vs H', Inv X pins σ H' s' ∧ Vals vs us ∧ Q vs H'
def SP (X : Cx) (pins : List (Addr × Obj)) (D : Ends) (f : Flow) (s' : Shared) : Prop :=
  match f with
  | .next => ∃ σ' H', Inv X pins σ' H' s' ∧ D.nx σ' H'
  | .brk => ∃ σ' H', Inv X pins σ' H' s' ∧ D.bk σ' H'
  | .cont => ∃ σ' H', Inv X pins σ' H' s' ∧ D.ct σ' H'
  | .ret u => ∃ v σ' H', Inv X pins σ' H' s' ∧ RelV v u ∧ D.rt v H'
def PE (X : Cx) (e : Expr) (t : TE) : Prop :=
  ∀ (pins : List (Addr × Obj)) (s : Shared) (σ : St) (H : Hp) (Q : VK), Inv X pins σ H s → t σ H Q → wpAny (model X.prog X.w) X.A (eval e X.env) (EP X pins σ Q) X.xe s
def PT (X : Cx) (e : Expr) (t : TT) : Prop :=
  ∀ (pins : List (Addr × Obj)) (s : Shared) (σ : St) (H : Hp) (Q : Bool → Hp → Prop), Inv X pins σ H s → t σ H Q → wpAny (model X.prog X.w) X.A (isTrue e X.env (eval e X.env)) (TP X pins σ Q) X.xe s
def PW (X : Cx) (e : Expr) (t : TT) : Prop :=
  ∀ (whole : Sem Value) (pins : List (Addr × Obj)) (s : Shared) (σ : St) (H : Hp) (Q : Bool → Hp → Prop), Inv X pins σ H s → t σ H Q → wpAny (model X.prog X.w) X.A (isTrue e X.env whole) (TP X pins σ Q) X.xe s
theorem PW.pt {X : Cx} {e : Expr} {t : TT} (h : PW X e t) : PT X e t := h _
def PA (X : Cx) (es : List Expr) (t : TA) : Prop :=
  ∀ (pos : Pos) (pins : List (Addr × Obj)) (s : Shared) (σ : St) (H : Hp) (Q : List V → Hp → Prop), Inv X pins σ H s → t σ H Q → wpAny (model X.prog X.w) X.A (spliced (backTo pos (starEach es X.env))) (AP X pins σ Q) X.xe s
def PS (X : Cx) (st : Stmt) (t : TS) : Prop :=
  ∀ (pins : List (Addr × Obj)) (s : Shared) (σ : St) (H : Hp) (D : Ends), Inv X pins σ H s → t D σ H → wpAny (model X.prog X.w) X.A (exec st X.env) (SP X pins D) X.xe s
def PSs (X : Cx) (st : List Stmt) (t : TS) : Prop :=
  ∀ (pins : List (Addr × Obj)) (s : Shared) (σ : St) (H : Hp) (D : Ends), Inv X pins σ H s → t D σ H → wpAny (model X.prog X.w) X.A (execs st X.env) (SP X pins D) X.xe s
theorem thn {α : Type} {t : Sem α} {Q Q' : α → Shared → Prop} {M : Model} {A : Around} {E : Value → Shared → Prop} {s : Shared} (h : wpAny M A t Q E s) (hQ : ∀ a s, Q a s → Q' a s) : wpAny M A t Q' E s := wpAny_mono h hQ fun _ _ x => x
end L2
namespace L2
open PySem PySem.Spec PyProof.Rows
section
variable {X : Cx}
def tVar (i : Nat) : TE := fun σ H Q => ∃ v, σ[i]? = some (some v) ∧ Q v H
def tC (v : V) : TE := fun _ H Q => Q v H
theorem pe_var {i : Nat} {x : Str} {pos : Pos} (hN : X.N[i]? = some x) (hv : Vis X.env.scope x) (hd : (x == ("__debug__" : Str)) = false := by decide) (hcd : (x == ("__classdict__" : Str)) = false := by decide) : PE X (.Name x pos) (tVar i) := by
  intro pins s σ H Q I h
  obtain ⟨v, e, h⟩ := h
  obtain ⟨m, hn, hl⟩ := I.loc
  obtain ⟨u, r, l⟩ := hl i x v hN e hv
  have fin : EP X pins σ Q u s := ⟨v, H, I, r, h⟩
  rcases l with ⟨hk, hm⟩ | ⟨hk, c, hc, hcell⟩
  · exact wpAny_Name (wpAny_loadName_local I.ok.kind hk hn hm fin) hd
  · rcases hk with hk | hk
    · exact wpAny_Name (wpAny_loadName_cell I.ok.kind hk hc hcell fin) hd
    · exact wpAny_Name (wpAny_loadName_free I.ok.kind hk hc hcell fin hcd) hd
theorem pe_int {i j pos} : PE X (.Constant (.int i) j pos) (tC (.int i)) := fun _ _ _ H _ I h => wpAny_Constant_int ⟨.int i, H, I.tok _, ⟨_, rfl⟩, h⟩
theorem pe_bl {b j pos} : PE X (.Constant (.bool b) j pos) (tC (.bl b)) := fun _ _ _ H _ I h => Constant_bool ⟨.bl b, H, I, rfl, h⟩
theorem pe_non {j pos} : PE X (.Constant .none j pos) (tC .non) := fun _ _ _ H _ I h => Constant_none ⟨.non, H, I, rfl, h⟩
theorem pe_str {x j pos} : PE X (.Constant (.str x) j pos) (tC (.str x)) := fun _ _ _ H _ I h => Calls.Constant_str ⟨.str x, H, I.tok _, ⟨_, rfl⟩, h⟩
def Gl (X : Cx) (x : Str) : Prop := X.env.kindOf x = some .globalImplicit
theorem ld_glob {E : Value → Shared → Prop} {pins : List (Addr × Obj)} {s : Shared} {σ : St} {H : Hp} {x : Str} {u : Value} {pos : Pos} {Q : Value → Shared → Prop} (I : Inv X pins σ H s) (hg : Gl X x) (hm : X.mg x = some u) (h : Q u s)
    (hd : (x == ("__debug__" : Str)) = false := by decide) : wpAny (model X.prog X.w) X.A (eval (.Name x pos) X.env) Q E s :=
  Calls.Name_function_global I.ok.kind hg (Calls.loadGlobal_global (by rw [I.ok.glob]; exact I.mod.glob.keeps I.bk) hm h) hd
theorem ld_blt {E : Value → Shared → Prop} {pins : List (Addr × Obj)} {s : Shared} {σ : St} {H : Hp} {x : Str} {u : Value} {pos : Pos} {Q : Value → Shared → Prop} (I : Inv X pins σ H s) (hg : Gl X x) (hm : X.mg x = none) (hv : bootBuiltins x = some u) (h : Q u s)
    (hn : x ≠ "__name__" := by decide) (hd : (x == ("__debug__" : Str)) = false := by decide) : wpAny (model X.prog X.w) X.A (eval (.Name x pos) X.env) Q E s := by
  obtain ⟨mb, h1, h2⟩ := I.mod.blt
  exact Calls.Name_function_global I.ok.kind hg (Calls.loadGlobal_builtin (by rw [I.ok.glob]; exact I.mod.glob.keeps I.bk) hm (by rw [I.ok.blt]; exact h1.keeps I.bk) ((h2 x hn).trans hv) h) hd
theorem pe_glob {x : Str} {v : V} {u : Value} {pos : Pos} (hg : Gl X x) (hm : X.mg x = some u) (r : RelV v u) (hd : (x == ("__debug__" : Str)) = false := by decide) : PE X (.Name x pos) (tC v) :=
  fun _ _ _ H _ I h => ld_glob I hg hm ⟨v, H, I, r, h⟩ hd
theorem pe_bltn {x : Str} {v : V} {u : Value} {pos : Pos} (hg : Gl X x) (hm : X.mg x = none) (hv : bootBuiltins x = some u) (r : RelV v u) (hn : x ≠ "__name__" := by decide) (hd : (x == ("__debug__" : Str)) = false := by decide) : PE X (.Name x pos) (tC v) :=
  fun _ _ _ H _ I h => ld_blt I hg hm hv ⟨v, H, I, r, h⟩ hn hd
variable {a b : Expr} {ta tb : TE} {pos : Pos}
def PC (X : Cx) (op : CmpOp) (a b : Expr) (t : TE) : Prop :=
  ∀ (pins : List (Addr × Obj)) (s : Shared) (σ : St) (H : Hp) (Q : VK), Inv X pins σ H s → t σ H Q →
    wpAny (model X.prog X.w) X.A (eval a X.env) (fun v s₁ => wpAny (model X.prog X.w) X.A (eval b X.env) (fun u s₂ => wpAny (model X.prog X.w) X.A (compareOp op v u) (EP X pins σ Q) X.xe s₂) X.xe s₁) X.xe s
theorem nobehind (b : Expr) {op : CmpOp} (h : op ≠ .In) (h2 : op ≠ .NotIn) : behindInMarks op b = false := by
  have e1 : (op == CmpOp.In) = false := by cases op <;> first | rfl | exact absurd rfl h
  have e2 : (op == CmpOp.NotIn) = false := by cases op <;> first | rfl | exact absurd rfl h2
  cases b <;> simp [behindInMarks, e1, e2]
def tIsN (ta : TE) : TE := fun σ H Q => ta σ H fun x H1 => Q (.bl (decide (x = .non))) H1
def tNotN (ta : TE) : TE := fun σ H Q => ta σ H fun x H1 => Q (.bl (!decide (x = .non))) H1
theorem RelV.none_iff {x : V} {v : Value} (r : RelV x v) : (v == Value.none) = decide (x = .non) := by
  cases x with
  | non => cases r; rfl
  | bl _ => cases r; rfl
  | int _ => obtain ⟨t, rfl⟩ := r; rfl
  | str _ => obtain ⟨t, rfl⟩ := r; rfl
  | byt _ => obtain ⟨t, rfl⟩ := r; rfl
  | flt _ => obtain ⟨t, rfl⟩ := r; rfl
  | ref _ => cases r; rfl
  | ty _ => cases r; rfl
theorem pc_isN {j pos'} (ha : PE X a ta) : PC X .Is a (.Constant .none j pos') (tIsN ta) := by
  intro pins s σ H Q I h
  refine thn (ha pins s σ H _ I h) fun v s1 ⟨x, H1, I1, r1, q1⟩ => ?_
  exact Constant_none (is_none_gen ⟨.bl _, H1, I1, by rw [r1.none_iff]; rfl, q1⟩)
theorem pc_notN {j pos'} (ha : PE X a ta) : PC X .IsNot a (.Constant .none j pos') (tNotN ta) := by
  intro pins s σ H Q I h
  refine thn (ha pins s σ H _ I h) fun v s1 ⟨x, H1, I1, r1, q1⟩ => ?_
  exact Constant_none (isnot_none_gen ⟨.bl _, H1, I1, by rw [r1.none_iff]; rfl, q1⟩)
def tB (t : TE) : TT := fun σ H Q => t σ H fun x H1 => ∃ c, x = .bl c ∧ Q c H1
theorem pt_cmp {op : CmpOp} {t : TE} (h : PC X op a b t) (h1 : behindInMarks op b = false := by first | exact nobehind _ (by decide) (by decide) | rfl) : PT X (.Compare a [op] [b] pos) (tB t) := by
  intro pins s σ H Q I hw
  refine wpAny_isTrue_Compare1 (thn (h pins s σ H _ I hw) fun v s1 h1 => thn h1 fun u s2 h2 => thn h2 fun c s3 ⟨x, H1, I1, r1, q1⟩ => ?_) h1
  obtain ⟨d, rfl, q⟩ := q1
  cases r1
  exact wpAny_truthy_bool ⟨H1, I1, q⟩
theorem pt_val {e : Expr} {t : TE} (h : PE X e t) (he : ∀ whole, isTrue e X.env whole = (do let v ← whole; standAt e.pos; holding [v] (truthy v)) := by intro _; rfl) : PT X e (tB t) := by
  intro pins s σ H Q I hw
  refine isTrue_plain (thn (h pins s σ H _ I hw) fun v s1 ⟨x, H1, I1, r1, q1⟩ => ?_) (he _)
  obtain ⟨d, rfl, q⟩ := q1
  cases r1
  exact wpAny_truthy_bool ⟨H1, I1, q⟩
variable {tA tB' : TT} {rest : List Expr}
def tAnd (t u : TT) : TT := fun σ H Q => t σ H fun c H1 => if c = true then u σ H1 Q else Q false H1
def tOr (t u : TT) : TT := fun σ H Q => t σ H fun c H1 => if c = true then Q true H1 else u σ H1 Q
def tNot (t : TT) : TT := fun σ H Q => t σ H fun c H1 => Q (!c) H1
theorem pw_and1 (ha : PT X a tA) : PW X (.BoolOp .And [a] pos) tA := by
  intro wh pins s σ H Q I h
  refine isTrue_and (thn (ha pins s σ H Q I h) fun c s1 e => ?_)
  cases c with
  | true => exact isTrue_and_nil e
  | false => exact e
theorem pw_or1 (ha : PT X a tA) : PW X (.BoolOp .Or [a] pos) tA := by
  intro wh pins s σ H Q I h
  refine isTrue_or (thn (ha pins s σ H Q I h) fun c s1 e => ?_)
  cases c with
  | false => exact isTrue_or_nil e
  | true => exact e
theorem pw_and (ha : PT X a tA) (hb : PW X (.BoolOp .And (b :: rest) pos) tB') : PW X (.BoolOp .And (a :: b :: rest) pos) (tAnd tA tB') := by
  intro wh pins s σ H Q I h
  refine isTrue_and (thn (ha pins s σ H _ I h) fun c s1 ⟨H1, I1, q1⟩ => ?_)
  cases c with
  | true => exact hb wh pins s1 σ H1 Q I1 q1
  | false => exact ⟨H1, I1, q1⟩
theorem pw_or (ha : PT X a tA) (hb : PW X (.BoolOp .Or (b :: rest) pos) tB') : PW X (.BoolOp .Or (a :: b :: rest) pos) (tOr tA tB') := by
  intro wh pins s σ H Q I h
  refine isTrue_or (thn (ha pins s σ H _ I h) fun c s1 ⟨H1, I1, q1⟩ => ?_)
  cases c with
  | true => exact ⟨H1, I1, q1⟩
  | false => exact hb wh pins s1 σ H1 Q I1 q1
theorem pt_not (ha : PT X a tA) : PT X (.UnaryOp .Not a pos) (tNot tA) := by
  intro pins s σ H Q I h
  exact isTrue_not (ha pins s σ H (fun c H1 => Q (!c) H1) I h)
def tAndV (ta tb : TE) : TE := fun σ H Q => ta σ H fun x H1 => ∃ c, x = .bl c ∧ if c = true then tb σ H1 Q else Q (.bl false) H1
def tOrV (ta tb : TE) : TE := fun σ H Q => ta σ H fun x H1 => ∃ c, x = .bl c ∧ if c = true then Q (.bl true) H1 else tb σ H1 Q
def tNotV (ta : TE) : TE := fun σ H Q => ta σ H fun x H1 => ∃ c, x = .bl c ∧ Q (.bl (!c)) H1
theorem pe_one {op} {t : TE} (h : PE X a t) : PE X (.BoolOp op [a] pos) t := fun pins s σ H Q I hw => BoolOp_one (h pins s σ H Q I hw)
theorem pe_and (ha : PE X a ta) (hb : PE X (.BoolOp .And (b :: rest) pos) tb) : PE X (.BoolOp .And (a :: b :: rest) pos) (tAndV ta tb) := by
  intro pins s σ H Q I h
  refine BoolOp_and (thn (ha pins s σ H _ I h) fun v s1 ⟨x, H1, I1, r1, q1⟩ => ?_)
  obtain ⟨c, rfl, q1⟩ := q1
  cases r1
  refine wpAny_truthy_bool ?_
  cases c with
  | true => exact hb pins s1 σ H1 Q I1 q1
  | false => exact ⟨.bl false, H1, I1, rfl, q1⟩
def tIf (t : TT) (ta tb : TE) : TE := fun σ H Q => t σ H fun c H1 => if c = true then ta σ H1 Q else tb σ H1 Q
theorem pe_ifExp {c : Expr} (hc : PT X c tA) (ha : PE X a ta) (hb : PE X b tb) : PE X (.IfExp c a b pos) (tIf tA ta tb) := by
  intro pins s σ H Q I h
  refine wpAny_IfExp (thn (hc pins s σ H _ I h) fun d s1 ⟨H1, I1, q1⟩ => ?_)
  cases d with
  | true => exact ha pins s1 σ H1 Q I1 q1
  | false => exact hb pins s1 σ H1 Q I1 q1
end
end L2
namespace L2
open PySem PySem.Spec PyProof.Rows
def SqL (K : PySem.W.Frag) (H : Hp) (a : Addr) (xs : List V) : Prop :=
  Rd H a (.lst xs) ∨
    ∃ (o : Obj) (its : Array Value) (n : Nat), K.lookup a = some o ∧ o.cls = .type "list" ∧ o.dict = none ∧ o.data = .seq its n ∧ its.size ≤ sizeLine ∧ Vals xs its.toList
def SqT (K : PySem.W.Frag) (H : Hp) (a : Addr) (xs : List V) : Prop :=
  Rd H a (.tup xs) ∨
    ∃ (o : Obj) (its : Array Value) (n : Nat), K.lookup a = some o ∧ o.cls = .type "tuple" ∧ o.data = .seq its n ∧ its.size ≤ sizeLine ∧ Vals xs its.toList
def absV : Value → Option V
  | .none => some .non
  | .bool b => some (.bl b)
  | .int i _ => some (.int i)
  | .str x _ => some (.str x)
  | .bytes b _ => some (.byt b)
  | .float b _ => some (.flt b)
  | .ref a => some (.ref a)
  | .type n => some (.ty n)
  | _ => none
theorem RelV.abs {x : V} {u : Value} (r : RelV x u) : absV u = some x := by
  cases x with
  | non => cases r; rfl
  | bl _ => cases r; rfl
  | int _ => obtain ⟨t, rfl⟩ := r; rfl
  | str _ => obtain ⟨t, rfl⟩ := r; rfl
  | byt _ => obtain ⟨t, rfl⟩ := r; rfl
  | flt _ => obtain ⟨t, rfl⟩ := r; rfl
  | ref _ => cases r; rfl
  | ty _ => cases r; rfl
theorem RelV.inj {x y : V} {u : Value} (r : RelV x u) (q : RelV y u) : x = y := Option.some.inj (r.abs.symm.trans q.abs)
theorem Vals.inj : ∀ {xs ys : List V} {us : List Value}, Vals xs us → Vals ys us → xs = ys
  | _, _, _, .nil, .nil => rfl
  | _, _, _, .cons r t, .cons r' t' => by rw [r.inj r', Vals.inj t t']
section
variable {X : Cx} {pins : List (Addr × Obj)} {σ : St} {H : Hp} {s : Shared} {a : Addr} {xs ys : List V}
theorem SqL.of {K : PySem.W.Frag} (h : H a = some (.lst xs)) : SqL K H a xs := .inl (.inl h)
theorem SqT.of {K : PySem.W.Frag} (h : H a = some (.tup xs)) : SqT K H a xs := .inl (.inl h)
theorem Inv.list (I : Inv X pins σ H s) (h : SqL X.K H a xs) : ∃ its : List Value, Vals xs its ∧ PlainL s.heap a its.toArray ∧ xs.length ≤ sizeLine := by
  rcases h with h | ⟨o, its, n, hk, hc, hd, hs, hz, r⟩
  · obtain ⟨z, its, n, r, e⟩ := h.ok I.hok
    exact ⟨its, r, ⟨_, n, e, rfl, rfl, rfl⟩, z⟩
  · refine ⟨its.toList, r, ⟨o, n, I.kIn a o hk, hc, hd, by simpa using hs⟩, ?_⟩
    have e := r.length
    simp only [Array.length_toList] at e
    omega
theorem Inv.tuple (I : Inv X pins σ H s) (h : SqT X.K H a xs) : ∃ its : List Value, Vals xs its ∧ IsTup s.heap a its.toArray ∧ xs.length ≤ sizeLine := by
  rcases h with h | ⟨o, its, n, hk, hc, hs, hz, r⟩
  · obtain ⟨z, its, r, p⟩ := h.ok I.hok
    exact ⟨its, r, p, z⟩
  · refine ⟨its.toList, r, ⟨o, I.kIn a o hk, hc, n, by simpa using hs⟩, ?_⟩
    have e := r.length
    simp only [Array.length_toList] at e
    omega
theorem Inv.list_inj (I : Inv X pins σ H s) (h : SqL X.K H a xs) (h' : SqL X.K H a ys) : xs = ys := by
  obtain ⟨its, r, ⟨o, n, e, _, _, d⟩, _⟩ := I.list h
  obtain ⟨its', r', ⟨o', n', e', _, _, d'⟩, _⟩ := I.list h'
  rw [e] at e'; cases e'
  rw [d] at d'
  injection d' with d1 _
  have : its = its' := by simpa using congrArg Array.toList d1
  subst this
  exact r.inj r'
theorem Inv.tuple_inj (I : Inv X pins σ H s) (h : SqT X.K H a xs) (h' : SqT X.K H a ys) : xs = ys := by
  obtain ⟨its, r, ⟨o, e, _, n, d⟩, _⟩ := I.tuple h
  obtain ⟨its', r', ⟨o', e', _, n', d'⟩, _⟩ := I.tuple h'
  rw [e] at e'; cases e'
  rw [d] at d'
  injection d' with d1 _
  have : its = its' := by simpa using congrArg Array.toList d1
  subst this
  exact r.inj r'
end
abbrev Cx.wish (X : Cx) (E : Value → Shared → Prop) : Cx := { X with xe := E }
abbrev Cx.nox (X : Cx) : Cx := X.wish fun _ _ => False
theorem Cx.Ok.wish {X : Cx} (ok : X.Ok) (E : Value → Shared → Prop) : (X.wish E).Ok :=
  ⟨ok.mod, ok.kind, ok.glob, ok.blt, ok.above, ok.inj, ok.has, ok.cab, ok.hd, ok.frames, ok.stk, ok.exf, ok.bs, ok.bsz, ok.noex, ok.exfs, ok.funs, ok.frf⟩
theorem Cx.Ok.unwish {X : Cx} {E : Value → Shared → Prop} (ok : (X.wish E).Ok) : X.Ok :=
  ⟨ok.mod, ok.kind, ok.glob, ok.blt, ok.above, ok.inj, ok.has, ok.cab, ok.hd, ok.frames, ok.stk, ok.exf, ok.bs, ok.bsz, ok.noex, ok.exfs, ok.funs, ok.frf⟩
section
variable {X : Cx} {pins : List (Addr × Obj)} {σ : St} {H : Hp} {s : Shared} {E : Value → Shared → Prop}
theorem Inv.wish (I : Inv X pins σ H s) (E : Value → Shared → Prop) : Inv (X.wish E) pins σ H s := ⟨I.ok.wish E, I.os, I.bare, I.base, I.loc, I.cell, I.free, I.freeC, I.pin, I.hok, I.len⟩
theorem Inv.unwish (I : Inv (X.wish E) pins σ H s) : Inv X pins σ H s := ⟨I.ok.unwish, I.os, I.bare, I.base, I.loc, I.cell, I.free, I.freeC, I.pin, I.hok, I.len⟩
theorem SP.unwish {D : Ends} {f : Flow} {s' : Shared} (h : SP (X.wish E) pins D f s') : SP X pins D f s' := by
  cases f with
  | next => obtain ⟨σ', H', I, q⟩ := h; exact ⟨σ', H', I.unwish, q⟩
  | brk => obtain ⟨σ', H', I, q⟩ := h; exact ⟨σ', H', I.unwish, q⟩
  | cont => obtain ⟨σ', H', I, q⟩ := h; exact ⟨σ', H', I.unwish, q⟩
  | ret u => obtain ⟨v, σ', H', I, r, q⟩ := h; exact ⟨v, σ', H', I.unwish, r, q⟩
theorem PSs.nox {st : List Stmt} {t : TS} (h : PSs X.nox st t) : PSs X st t := fun pins s σ H D I hw =>
  wpAny_mono (h pins s σ H D (I.wish _) hw) (fun _ _ q => q.unwish) fun _ _ z => False.elim z
end
section
variable {X : Cx} {st : Stmt} {rest : List Stmt} {t u : TS} {e : Expr} {te : TE} {pos : Pos}
def tNext : TS := fun D σ H => D.nx σ H
def tSeq (t u : TS) : TS := fun D σ H => t { D with nx := u D } σ H
theorem pss_nil : PSs X [] tNext := fun _ _ σ H _ I h => wpAny_execs_nil ⟨σ, H, I, h⟩
theorem pss_cons (h1 : PS X st t) (h2 : PSs X rest u) : PSs X (st :: rest) (tSeq t u) := by
  intro pins s σ H D I h
  refine wpAny_execs_cons (thn (h1 pins s σ H { D with nx := u D } I h) fun f s1 q => ?_)
  cases f with
  | next =>
    obtain ⟨σ', H', I', q⟩ := q
    exact h2 pins s1 σ' H' D I' q
  | ret v => exact q
  | brk => exact q
  | cont => exact q
theorem pss_one (h1 : PS X st t) : PSs X [st] t := by
  intro pins s σ H D I h
  refine wpAny_execs_cons (thn (h1 pins s σ H D I h) fun f s1 q => ?_)
  cases f with
  | next => exact wpAny_execs_nil q
  | ret v => exact q
  | brk => exact q
  | cont => exact q
def tBreak : TS := fun D σ H => D.bk σ H
def tCont : TS := fun D σ H => D.ct σ H
theorem Inv.quiet {pins : List (Addr × Obj)} {σ : St} {H : Hp} {s : Shared} (I : Inv X pins σ H s) : interactive X.env = false := by simp [interactive, I.ok.kind]
def tDrop (te : TE) : TS := fun D σ H => te σ H fun _ H1 => D.nx σ H1
theorem ps_expr (he : PE X e te) (hs : swapsWith e none pos.line X.env = pure false := by rfl) : PS X (.Expr e pos) (tDrop te) := by
  intro pins s σ H D I h
  exact wpAny_Expr_any (thn (he pins s σ H _ I h) fun v s1 ⟨x, H1, I1, r1, q1⟩ => ⟨σ, H1, I1, q1⟩) I.quiet hs
def tRet (te : TE) : TS := fun D σ H => te σ H D.rt
theorem ps_ret (he : PE X e te) : PS X (.Return (some e) pos) (tRet te) := by
  intro pins s σ H D I h
  exact wpAny_Return_some (thn (he pins s σ H _ I h) fun v s1 ⟨x, H1, I1, r1, q1⟩ => ⟨x, σ, H1, I1, r1, q1⟩)
def tRetN : TS := fun D _ H => D.rt .non H
def tIfS (c : TT) (t u : TS) : TS := fun D σ H => c σ H fun b H1 => if b = true then t D σ H1 else u D σ H1
theorem ps_if {c : Expr} {a b : List Stmt} {tc : TT} (hc : PT X c tc) (ha : PSs X a t) (hb : PSs X b u) : PS X (.If c a b pos) (tIfS tc t u) := by
  intro pins s σ H D I h
  refine wpAny_If (thn (hc pins s σ H _ I h) fun d s1 ⟨H1, I1, q1⟩ => ?_)
  cases d with
  | true => exact ha pins s1 σ H1 D I1 q1
  | false => exact hb pins s1 σ H1 D I1 q1
end
abbrev TG := V → St → Hp → (St → Hp → Prop) → Prop
abbrev TGs := List V → St → Hp → (St → Hp → Prop) → Prop
def PG (X : Cx) (target : Expr) (t : TG) : Prop :=
  ∀ (pins : List (Addr × Obj)) (s : Shared) (σ : St) (H : Hp) (v : V) (u : Value) (Q : St → Hp → Prop), Inv X pins σ H s → RelV v u → t v σ H Q →
    wpAny (model X.prog X.w) X.A (assign target X.env u) (fun _ s' => ∃ σ' H', Inv X pins σ' H' s' ∧ Q σ' H') X.xe s
def PGs (X : Cx) (ts : List Expr) (t : TGs) : Prop :=
  ∀ (pins : List (Addr × Obj)) (s : Shared) (σ : St) (H : Hp) (vs : List V) (us : List Value) (Q : St → Hp → Prop), Inv X pins σ H s → Vals vs us → t vs σ H Q →
    wpAny (model X.prog X.w) X.A (assignInOrder ((assignEach ts X.env).map (·.2)) us) (fun _ s' => ∃ σ' H', Inv X pins σ' H' s' ∧ Q σ' H') X.xe s
abbrev TSet := V → V → V → Hp → (Hp → Prop) → Prop
def PSet (X : Cx) (t : TSet) : Prop :=
  ∀ (pins : List (Addr × Obj)) (s : Shared) (σ : St) (H : Hp) (o i v : V) (ov iv u : Value) (Q : Hp → Prop), Inv X pins σ H s → RelV o ov → RelV i iv → RelV v u → t o i v H Q →
    wpAny (model X.prog X.w) X.A (setItem ov iv u) (fun _ s' => ∃ H', Inv X pins σ H' s' ∧ Q H') X.xe s
abbrev TIp := V → V → Hp → VK → Prop
section
variable {X : Cx} {pos : Pos}
def gName (i : Nat) : TG := fun v σ H Q => Q (σ.set i (some v)) H
theorem pg_name {i : Nat} {x : Str} (hN : X.N.Nodup) (hi : X.N[i]? = some x) (hx : Loc X.env.scope x) (hf : X.fn x = true ∨ X.env.scope.names.lookup x = some .local := by first | exact .inl rfl | exact .inr rfl | assumption) : PG X (.Name x pos) (gName i) := by
  intro pins s σ H v u Q I r h
  exact wpAny_assign_Name (store_ok I hN hi hx r (fun s' I' => ⟨_, H, I', h⟩) hf)
def gNil : TGs := fun vs σ H Q => vs = [] ∧ Q σ H
def gCons (t : TG) (u : TGs) : TGs := fun vs σ H Q => ∃ v r, vs = v :: r ∧ t v σ H fun σ' H' => u r σ' H' Q
theorem pgs_nil : PGs X [] gNil := by
  intro pins s σ H vs us Q I r h
  obtain ⟨e, h⟩ := h
  subst e
  cases r
  exact assignInOrder_nil ⟨σ, H, I, h⟩
theorem pgs_cons {e : Expr} {es : List Expr} {t : TG} {u : TGs} (h1 : PG X e t) (h2 : PGs X es u)
    (hs : (assignEach (e :: es) X.env).map (·.2) = assign e X.env :: (assignEach es X.env).map (·.2) := by rfl) : PGs X (e :: es) (gCons t u) := by
  intro pins s σ H vs us Q I r h
  obtain ⟨v, vr, e1, h⟩ := h
  subst e1
  cases r with
  | cons r rr =>
    rw [hs]
    refine assignInOrder_cons (thn (h1 pins s σ H _ _ _ I r h) fun _ s1 ⟨σ1, H1, I1, q1⟩ => ?_)
    exact h2 pins s1 σ1 H1 _ _ Q I1 rr q1
def gTup (K : PySem.W.Frag) (n : Nat) (t : TGs) : TG := fun v σ H Q => ∃ a xs, v = .ref a ∧ SqT K H a xs ∧ xs.length = n ∧ t xs σ H Q
theorem pg_tup {es : List Expr} {k : Nat} {t : TGs} {n : Nat} (hc : X.calm = true) (h : PGs X es t)
    (hn : (assignEach es X.env).length = n := by rfl) (hst : (assignEach es X.env).findIdx? (·.1) = none := by rfl) : PG X (.Tuple es k pos) (gTup X.K n t) := by
  intro pins s σ H v u Q I r hw
  obtain ⟨a, xs, e1, hq, hl, hw⟩ := hw
  subst e1
  cases r
  obtain ⟨its, rv, ht, hz⟩ := I.tuple hq
  refine assign_Tuple_tuple (I.ok.hd hc) ht (by simp [hn, ← hl, rv.length]) hst fun h' hx => ?_
  have I1 : Inv X pins σ H { s with heap := h' } := I.kept (t' := s.toks) fun b o e => hx b o (Nat.ne_of_lt (Heap.lt_size e)) e
  exact h pins _ σ H xs _ Q I1 (by simpa using rv) hw
def gSub (to ti : TE) (t : TSet) : TG := fun v σ H Q => to σ H fun o H1 => ti σ H1 fun i H2 => t o i v H2 fun H3 => Q σ H3
theorem pg_sub {o i : Expr} {to ti : TE} {t : TSet} (ho : PE X o to) (hi : PE X i ti) (hs : PSet X t)
    (ha : ∀ v, assign (.Subscript o i pos) X.env v = (do
      let ov ← holding [v] (eval o X.env)
      let iv ← holding [v, ov] (eval i X.env)
      standAt pos
      holding [v, ov, iv] (setItem ov iv v)
      release [v, ov, iv] []) := by intro _; rfl) : PG X (.Subscript o i pos) (gSub to ti t) := by
  intro pins s σ H v u Q I r h
  rw [ha]
  refine wpAny_bind (wpAny_holding (thn (ho pins s σ H _ I h) fun ov s1 ⟨x, H1, I1, r1, q1⟩ => ?_))
  refine wpAny_bind (wpAny_holding (thn (hi pins s1 σ H1 _ I1 q1) fun iv s2 ⟨y, H2, I2, r2, q2⟩ => ?_))
  refine wpAny_bind (wpAny_standAt (wpAny_bind (wpAny_holding (thn (hs pins s2 σ H2 x y v ov iv u _ I2 r1 r2 r q2) fun _ s3 ⟨H3, I3, q3⟩ => ?_))))
  exact wpAny_release ⟨σ, H3, I3, q3⟩
def tAsg (te : TE) (g : TG) : TS := fun D σ H => te σ H fun x H1 => g x σ H1 D.nx
theorem ps_asg {tg e : Expr} {te : TE} {g : TG} (he : PE X e te) (hg : PG X tg g) (hs : swapsWithSole [tg] e pos.line X.env = pure false := by rfl) (hw : swappedStores [tg] e X.env = pure none := by rfl)
    (h1 : (assignEach [tg] X.env).map (·.2) = [assign tg X.env] := by rfl) : PS X (.Assign [tg] e pos) (tAsg te g) := by
  intro pins s σ H D I h
  refine wpAny_Assign_stores (thn (he pins s σ H _ I h) fun v s1 ⟨x, H1, I1, r1, q1⟩ => ?_) hs hw
  rw [h1]
  exact thn (hg pins s1 σ H1 x v _ I1 r1 q1) fun _ s2 q => q
theorem ps_set {i : Nat} {x : Str} {e : Expr} {te : TE} {pos' : Pos} (hN : X.N.Nodup) (hi : X.N[i]? = some x) (hx : Loc X.env.scope x) (he : PE X e te) (hs : swapsWith e (some (.Name x pos')) pos.line X.env = pure false := by rfl) (hf : X.fn x = true ∨ X.env.scope.names.lookup x = some .local := by first | exact .inl rfl | exact .inr rfl | assumption) :
    PS X (.Assign [.Name x pos'] e pos) (tAsg te (gName i)) := by
  intro pins s σ H D I h
  refine wpAny_Assign_Name (thn (he pins s σ H _ I h) fun v s1 ⟨y, H1, I1, r1, q1⟩ => ?_) hs
  exact store_ok I1 hN hi hx r1 (fun s2 I2 => ⟨_, H1, I2, q1⟩) hf
def tAug (i : Nat) (te : TE) (ti : TIp) : TS := fun D σ H => ∃ x, σ[i]? = some (some x) ∧ te σ H fun y H1 => ti x y H1 fun z H2 => D.nx (σ.set i (some z)) H2
def ipI (f : Int → Int → Int) : TIp := fun x y H Q => ∃ i j, x = .int i ∧ y = .int j ∧ Q (.int (f i j)) H
end
section
variable {X : Cx} {pos : Pos}
end
structure It where
  go : Nat → Hp → Prop
  yld : Nat → Hp → V → Hp → Prop
  stop : Nat → Hp → Prop
def FpOk (X : Cx) (pins : List (Addr × Obj)) (H : Hp) (b : Addr) : Prop :=
  H b = none ∧ b ≠ X.env.locals ∧ b ∉ X.fs ∧ (b ∈ X.ex ∨ X.s₀.heap.objs.size ≤ b) ∧ (∀ x c, X.env.cells.lookup x = some c → c ≠ b) ∧ ∀ p ∈ X.pn ++ pins, p.1 ≠ b
theorem Inv.fpOk {X : Cx} {pins : List (Addr × Obj)} {σ : St} {H H' : Hp} {s : Shared} {b : Addr} (I : Inv X pins σ H s) (hb : s.heap.objs.size ≤ b) (hn : H' b = none) : FpOk X pins H' b := by
  refine ⟨hn, Nat.ne_of_gt (Nat.lt_of_lt_of_le I.lt hb), I.nofs hb, .inr (Nat.le_trans I.sz hb), fun x c e z => ?_, fun p hp z => ?_⟩
  · obtain ⟨v, q⟩ := I.cell x c e
    exact absurd (Nat.lt_of_lt_of_le q.lt (by rw [z]; exact hb)) (Nat.lt_irrefl _)
  · exact absurd (Nat.lt_of_lt_of_le (Heap.lt_size (I.pin p hp).1) (by rw [z]; exact hb)) (Nat.lt_irrefl _)
structure Turn (P : Program) (w : World) (K : PySem.W.Frag) (tg : Expr) (J : It) (fp : List Addr) (it : Addr) (tn : Nat → Heap → Prop) : Prop where
  mem : it ∈ fp
  obj : ∀ i h, tn i h → ∀ b ∈ fp, ∃ o, h.get? b = some o ∧ ∀ v, o.data ≠ .cell v
  keep : ∀ i h h', tn i h → (∀ b ∈ fp, ∀ o, h.get? b = some o → h'.get? b = some o) → tn i h'
  item : ∀ (X : Cx), X.prog = P → X.w = w → X.K = K → X.calm = true → ∀ (i : Nat) (pins : List (Addr × Obj)) (s : Shared) (σ : St) (H : Hp) (E : Value → Shared → Prop), Inv X pins σ H s → (∀ b ∈ fp, FpOk X pins H b) → tn i s.heap → J.go i H →
    wpAny (model P w) X.A (pyNext (.ref it)) (fun r s1 => ∃ u, r = some u ∧
      wpAny (model P w) X.A (letOwnedTupleGo tg (.ref it) u) (fun _ s2 => ∃ x H', Inv X pins σ H' s2 ∧ RelV x u ∧ J.yld i H x H' ∧ tn (i + 1) s2.heap ∧ ∀ b ∈ fp, H' b = none) E s1) E s
  done : ∀ (X : Cx), X.prog = P → X.w = w → X.K = K → X.calm = true → ∀ (i : Nat) (pins : List (Addr × Obj)) (s : Shared) (σ : St) (H : Hp) (E : Value → Shared → Prop), Inv X pins σ H s → (∀ b ∈ fp, FpOk X pins H b) → tn i s.heap → J.stop i H →
    wpAny (model P w) X.A (pyNext (.ref it)) (fun r s1 => r = none ∧ Inv X pins σ H s1) E s
  self : ∀ (A : Around) (i : Nat) (s : Shared) (Q : Value → Shared → Prop) (E : Value → Shared → Prop), tn i s.heap → Q (.ref it) s → wpAny (model P w) A (pyIter (.ref it)) Q E s
abbrev TI := St → Hp → (It → Hp → Prop) → Prop
def PIE (X : Cx) (pins : List (Addr × Obj)) (σ : St) (tg : Expr) (R : It → Hp → Prop) (itv : Value) (s2 : Shared) : Prop :=
  ∃ (it : Addr) (fp : List Addr) (tn : Nat → Heap → Prop) (J : It) (H' : Hp), itv = .ref it ∧ Inv X pins σ H' s2 ∧ Turn X.prog X.w X.K tg J fp it tn ∧ tn 0 s2.heap ∧ (∀ b ∈ fp, FpOk X pins H' b) ∧ R J H'
def PI (X : Cx) (tg iter : Expr) (wi : TI) : Prop :=
  ∀ (pins : List (Addr × Obj)) (s : Shared) (σ : St) (H : Hp) (R : It → Hp → Prop), Inv X pins σ H s → wi σ H R →
    wpAny (model X.prog X.w) X.A (eval iter X.env) (fun v s1 => wpAny (model X.prog X.w) X.A (pyIter v) (PIE X pins σ tg R) X.xe s1) X.xe s
theorem go_of {M : Model} {A : Around} {E : Value → Shared → Prop} {s : Shared} {tg : Expr} {it : Addr} {u : Value} {o : Obj} {n : String} {vs : Array Value} {Q : Unit → Shared → Prop} (ho : s.heap.get? it = some o) (hc : o.cls = .type n) (hd : o.data = .fields vs)
    (hn : ["enumerate", "zip", "dict_itemiterator", "dict_reverseitemiterator", "odict_iterator", "itertools.zip_longest", "itertools.pairwise"].contains n = false) (hQ : Q () s) : wpAny M A (letOwnedTupleGo tg (.ref it) u) Q E s := by
  unfold letOwnedTupleGo
  cases tg <;> first
    | exact wpAny_pure hQ
    | (cases u <;> first
        | exact wpAny_pure hQ
        | (refine wpAny_bind (wpAny_load ho ?_)
           rw [hc, hd]
           show wpAny M A (if (["enumerate", "zip", "dict_itemiterator", "dict_reverseitemiterator", "odict_iterator", "itertools.zip_longest", "itertools.pairwise"].contains n && vs[0]? == some (rawInt _)) = true then _ else _) Q E s
           rw [if_neg (by intro h; rw [hn, Bool.false_and] at h; cases h)]
           exact wpAny_pure hQ))
def Itl (K : PySem.W.Frag) (a : Addr) : It :=
  ⟨fun i H => ∃ xs x, SqL K H a xs ∧ xs[i]? = some x, fun i H x H' => H' = H ∧ ∀ xs, SqL K H a xs → xs[i]? = some x, fun i H => ∃ xs, SqL K H a xs ∧ xs.length ≤ i⟩
def Itt (K : PySem.W.Frag) (a : Addr) : It :=
  ⟨fun i H => ∃ xs x, SqT K H a xs ∧ xs[i]? = some x, fun i H x H' => H' = H ∧ ∀ xs, SqT K H a xs → xs[i]? = some x, fun i H => ∃ xs, SqT K H a xs ∧ xs.length ≤ i⟩
def Itr (lo : Int) (n : Nat) : It := ⟨fun i _ => i < n, fun i H x H' => H' = H ∧ x = .int (lo + i), fun i _ => n ≤ i⟩
theorem turn_list {P : Program} {w : World} {K : PySem.W.Frag} {tg : Expr} (a it : Addr) : Turn P w K tg (Itl K a) [it] it (fun i h => h.IsListIter it a i) where
  mem := by simp
  obj := fun i h st b hb => by
    have e : b = it := by simpa using hb
    subst e
    obtain ⟨o, e, c, d⟩ := st
    exact ⟨o, e, fun v z => by rw [d] at z; cases z⟩
  keep := fun i h h' st k => st.at fun o e => k it (by simp) o e
  item := by
    intro X hP hw hK hc i pins s σ H E I hf st hg
    subst hP hw hK
    obtain ⟨xs, x, hq, hx⟩ := hg
    obtain ⟨its, rv, p, hz⟩ := I.list hq
    obtain ⟨u, hu, ru⟩ := rv.get hx
    obtain ⟨f0, f1, f2, f3, f4, f5⟩ := hf it (by simp)
    refine wpAny_pyNext_list_item st p.isList (x := u) (by simpa using hu) fun h' st' sb => ?_
    have I1 : Inv X pins σ H { s with heap := h' } := I.turned (t' := s.toks) (fun b o hb e => (sb.2 b hb).trans e) f0 f1 f3 f4 f5
    obtain ⟨o, e, c, d⟩ := id st'
    exact ⟨u, rfl, go_of (s := { s with heap := h' }) e c d (by decide) ⟨x, H, I1, ru, ⟨rfl, fun ys hy => by rw [I.list_inj hy hq]; exact hx⟩, st', fun b hb => (hf b hb).1⟩⟩
  done := by
    intro X hP hw hK hc i pins s σ H E I hf st hg
    subst hP hw hK
    obtain ⟨xs, hq, hx⟩ := hg
    obtain ⟨its, rv, p, hz⟩ := I.list hq
    obtain ⟨f0, f1, f2, f3, f4, f5⟩ := hf it (by simp)
    have hl := rv.length
    exact wpAny_pyNext_list_end (I.ok.hd hc) st p.isList (by simp; omega) fun h' eb => ⟨rfl, I.turned (t' := s.toks) (fun b o hb e => eb b o hb e) f0 f1 f3 f4 f5⟩
  self := fun _ _ _ _ _ st h => wpAny_pyIter_listiter st h
theorem turn_range {P : Program} {w : World} {K : PySem.W.Frag} {tg : Expr} (it : Addr) (lo : Int) (n : Nat) : Turn P w K tg (Itr lo n) [it] it (fun i h => IsRangeIter h it (lo + (i : Nat) * 1) ((n : Int) - (i : Nat)) 1) where
  mem := by simp
  obj := fun i h st b hb => by
    have e : b = it := by simpa using hb
    subst e
    exact ⟨_, st, fun v z => by
      have z' : Data.fields _ = Data.cell v := z
      cases z'⟩
  keep := fun i h h' st k => k it (by simp) _ st
  item := by
    intro X hP hw hK hc i pins s σ H E I hf st hg
    subst hP hw hK
    obtain ⟨f0, f1, f2, f3, f4, f5⟩ := hf it (by simp)
    have W := Walks.range (prog := X.prog) (w := X.w) (I.ok.hd hc) it lo 1 n
    refine W.item i s _ _ hg st fun v h' tk hv st' kk => ?_
    obtain ⟨t, rfl⟩ := hv
    have I1 : Inv X pins σ H { s with heap := h', toks := tk } := I.turned (fun b o hb e => kk b o (by simpa using hb) e) f0 f1 f3 f4 f5
    refine ⟨_, rfl, go_of (s := { s with heap := h', toks := tk }) (n := "range_iterator") st' rfl rfl (by decide) ⟨.int (lo + i), H, I1, ⟨t, ?_⟩, ⟨rfl, rfl⟩, st', fun b hb => (hf b hb).1⟩⟩
    rw [Int.mul_one]
  done := by
    intro X hP hw hK hc i pins s σ H E I hf st hg
    subst hP hw hK
    obtain ⟨f0, f1, f2, f3, f4, f5⟩ := hf it (by simp)
    exact wpAny_pyNext_range_end (I.ok.hd hc) st (by have : n ≤ i := hg; omega) fun h' eb => ⟨rfl, I.turned (t' := s.toks) (fun b o hb e => eb b o hb e) f0 f1 f3 f4 f5⟩
  self := fun _ _ _ _ _ st h => wpAny_pyIter_rangeiter st h
end L2
namespace L2
open PySem PySem.Spec PyProof.Rows
section
variable {X : Cx} {tg : Expr}
def iList (K : PySem.W.Frag) (tl : TE) : TI := fun σ H R => tl σ H fun x H1 => ∃ a, x = .ref a ∧ (∃ xs, SqL K H1 a xs) ∧ R (Itl K a) H1
def iTup (K : PySem.W.Frag) (tl : TE) : TI := fun σ H R => tl σ H fun x H1 => ∃ a, x = .ref a ∧ (∃ xs, SqT K H1 a xs) ∧ R (Itt K a) H1
theorem pi_list {l : Expr} {tl : TE} (hl : PE X l tl) : PI X tg l (iList X.K tl) := by
  intro pins s σ H R I h
  refine thn (hl pins s σ H _ I h) fun v s1 ⟨x, H1, I1, r1, q1⟩ => ?_
  obtain ⟨a, e, ⟨xs, hq⟩, q⟩ := q1
  subst e
  cases r1
  obtain ⟨its, rv, p, hz⟩ := I1.list hq
  refine wpAny_pyIter_list p.isList ?_
  refine ⟨s1.heap.objs.size, [s1.heap.objs.size], _, _, H1, rfl, I1.kept (t' := s1.toks) fun b o e => Heap.get?_push_of_some _ e, turn_list a _, ⟨_, Heap.get?_push_size _ rfl, rfl, rfl⟩, fun b hb => ?_, q⟩
  have e : b = s1.heap.objs.size := by simpa using hb
  subst e
  exact I1.fpOk (Nat.le_refl _) (I1.hok.fresh (Nat.le_refl _))
theorem range_it {pins : List (Addr × Obj)} {σ : St} {H : Hp} {s : Shared} {R : It → Hp → Prop} {E : Value → Shared → Prop} {lo hi : Int} {t u v : Tok} {tk : Nat} (I : Inv X pins σ H s) (h1 : -(2 ^ 62) ≤ lo) (h2 : lo < 2 ^ 62) (h3 : -(2 ^ 62) ≤ hi) (h4 : hi < 2 ^ 62)
    (q : R (Itr lo (hi - lo).toNat) H) : wpAny (model X.prog X.w) X.A (pyIter (.ref s.heap.objs.size)) (PIE X pins σ tg R) E { s with heap := s.heap.push { cls := .type "range", data := .fields #[.int lo t, .int hi u, .int 1 v] }, toks := tk } := by
  refine wpAny_pyIter_range (IsRange.new ..) (small_one h1 h2 h3 h4) ?_
  have I1 : Inv X pins σ H { s with heap := s.heap.push { cls := .type "range", data := .fields #[.int lo t, .int hi u, .int 1 v] }, toks := tk } := I.kept fun b o e => Heap.get?_push_of_some _ e
  refine ⟨(s.heap.push { cls := .type "range", data := .fields #[.int lo t, .int hi u, .int 1 v] }).objs.size, [(s.heap.push { cls := .type "range", data := .fields #[.int lo t, .int hi u, .int 1 v] }).objs.size], _, _, H, rfl,
    I1.kept (t' := tk) fun b o e => Heap.get?_push_of_some _ e, turn_range _ lo (hi - lo).toNat, ?_, fun b hb => ?_, q⟩
  · have e1 : lo + ((0 : Nat) : Int) * 1 = lo := by simp
    have e2 : (((hi - lo).toNat : Nat) : Int) - ((0 : Nat) : Int) = Builtin.Range.rangeSize lo hi 1 := by rw [rangeSize_one]; split <;> omega
    show IsRangeIter _ _ (lo + ((0 : Nat) : Int) * 1) ((((hi - lo).toNat : Nat) : Int) - ((0 : Nat) : Int)) 1
    rw [e1, e2]
    exact Heap.get?_push_size _ rfl
  · have e : b = (s.heap.push { cls := .type "range", data := .fields #[.int lo t, .int hi u, .int 1 v] }).objs.size := by simpa using hb
    subst e
    exact I1.fpOk (Nat.le_refl _) (I1.hok.fresh (Nat.le_refl _))
def iRng1 (ta : TA) : TI := fun σ H R => ta σ H fun vs H1 => ∃ j : Int, vs = [.int j] ∧ -(2 ^ 62) ≤ j ∧ j < 2 ^ 62 ∧ R (Itr 0 j.toNat) H1
def iRng2 (ta : TA) : TI := fun σ H R => ta σ H fun vs H1 => ∃ i j : Int, vs = [.int i, .int j] ∧ (-(2 ^ 62) ≤ i ∧ i < 2 ^ 62 ∧ -(2 ^ 62) ≤ j ∧ j < 2 ^ 62) ∧ R (Itr i (j - i).toNat) H1
theorem pi_range1 {a : Expr} {ta : TA} {p pos : Pos} (hg : Gl X "range") (hm : X.mg "range" = none) (ha : PA X [a] ta) (hs : starEach [a] X.env = [(false, eval a X.env)] := by rfl) : PI X tg (.Call (.Name "range" p) [a] [] pos) (iRng1 ta) := by
  intro pins s σ H R I h
  refine Call_ (ld_blt I hg hm boot_range (PyProof.Rows.callWith_type1 (thn (ha pos pins s σ H _ I h) fun us s1 ⟨vs, H1, I1, r1, q1⟩ => ?_) hs rfl))
  obtain ⟨j, e, q1, q2, q⟩ := q1
  subst e
  cases r1 with
  | cons r rr =>
    cases rr
    obtain ⟨t, rfl⟩ := r
    exact call_range_1 (range_it I1 (by omega) (by omega) q1 q2 (by simpa using q))
def tFor (wi : TI) (g : TG) (tb : TS) : TS := fun D σ H => wi σ H fun J H1 => ∃ W : Nat → Nat → St → Hp → Prop, (∃ m, W 0 m σ H1) ∧ ∀ i m σ H, W i m σ H →
  (J.stop i H ∧ D.nx σ H) ∨ (J.go i H ∧ ∃ N : St → Hp → Prop, (∀ σ' H', N σ' H' → ∃ m', m' < m ∧ W (i + 1) m' σ' H') ∧ ∀ x H', J.yld i H x H' → g x σ H' fun σ2 H2 => tb { D with nx := N, ct := N, bk := D.nx } σ2 H2)
def pinsAt (fp : List Addr) (h : Heap) : List (Addr × Obj) := fp.filterMap fun b => (h.get? b).map fun o => (b, o)
theorem mem_pinsAt {fp : List Addr} {h : Heap} {b : Addr} {o : Obj} (hb : b ∈ fp) (e : h.get? b = some o) : (b, o) ∈ pinsAt fp h := List.mem_filterMap.mpr ⟨b, hb, by rw [e]; rfl⟩
theorem of_pinsAt {fp : List Addr} {h : Heap} {p : Addr × Obj} (hp : p ∈ pinsAt fp h) : p.1 ∈ fp ∧ h.get? p.1 = some p.2 := by
  obtain ⟨b, hb, e⟩ := List.mem_filterMap.mp hp
  cases q : h.get? b with
  | none => rw [q] at e; cases e
  | some o =>
    rw [q] at e
    have e' : (b, o) = p := Option.some.inj e
    subst e'
    exact ⟨hb, q⟩
theorem Inv.pinned {pins : List (Addr × Obj)} {σ : St} {H : Hp} {s : Shared} {fp : List Addr} (I : Inv X pins σ H s) (hf : ∀ b ∈ fp, FpOk X pins H b) (ho : ∀ b ∈ fp, ∃ o, s.heap.get? b = some o ∧ ∀ v, o.data ≠ .cell v) : Inv X (pins ++ pinsAt fp s.heap) σ H s :=
  I.pins_of fun p hp => (List.mem_append.mp hp).elim (fun z => I.pin p (List.mem_append_right _ z)) fun z => by
    obtain ⟨hb, e⟩ := of_pinsAt z
    obtain ⟨f0, f1, f2, _⟩ := hf p.1 hb
    obtain ⟨o, e', d⟩ := ho p.1 hb
    rw [e] at e'; cases e'
    exact ⟨e, f0, f1, f2, d⟩
theorem Inv.unpinned {pins pl : List (Addr × Obj)} {σ : St} {H : Hp} {s : Shared} (I : Inv X (pins ++ pl) σ H s) : Inv X pins σ H s := I.pins_of fun p hp => I.pin p (List.mem_append_right _ (List.mem_append_left _ hp))
theorem ps_for {iter : Expr} {body : List Stmt} {wi : TI} {g : TG} {tb : TS} {pos : Pos} (hp : PassesOwn (model X.prog X.w) X.A X.env X.xe) (hc : X.calm = true) (hi : PI X tg iter wi) (hg : PG X tg g) (hb : PSs X body tb)
    (hs : ∀ x, foldedSetIterable iter X.env x = pure x := by intro _; rfl) : PS X (.For tg iter body [] pos) (tFor wi g tb) := by
  intro pins s σ H D I h
  refine wpAny_For (thn (hi pins s σ H _ I h) fun v s1 h1 => thn h1 fun itv s2 h2 => ?_) hs
  obtain ⟨it, fp, tn, J, H2, e, I2, T, st2, f2, W, ⟨m0, w0⟩, turn⟩ := h2
  subst e
  -- what stays true of the iterator's objects through the loop
  have stat : ∀ {H' : Hp}, (∀ b ∈ fp, H' b = none) → ∀ b ∈ fp, FpOk X pins H' b := fun hn b hb => ⟨hn b hb, (f2 b hb).2⟩
  refine codeAny_forLoop_any (fun n s' => ∃ i σ' H', Inv X pins σ' H' s' ∧ tn i s'.heap ∧ (∀ b ∈ fp, H' b = none) ∧ W i n σ' H') ?_ m0 ⟨0, σ, H2, I2, st2, fun b hb => (f2 b hb).1, w0⟩
  rintro n s3 ⟨i, σ3, H3, I3, st3, fr3, w3⟩
  rcases turn i n σ3 H3 w3 with ⟨stop, qn⟩ | ⟨go, N, hN, step⟩
  · refine wpAny_passesOwn hp (thn (T.done X rfl rfl rfl hc i pins s3 σ3 H3 X.xe I3 (stat fr3) st3 stop) fun r s4 ⟨hr, I4⟩ => ?_)
    subst hr
    exact wpAny_execs_nil ⟨σ3, H3, I4, qn⟩
  · refine wpAny_passesOwn hp (thn (T.item X rfl rfl rfl hc i pins s3 σ3 H3 X.xe I3 (stat fr3) st3 go) fun r s4 ⟨u, hr, h4⟩ => ?_)
    subst hr
    refine wpAny_passesOwn hp (thn h4 fun _ s5 ⟨x, H5, I5, r5, y5, st5, fr5⟩ => ?_)
    have I5' := I5.pinned (stat fr5) (T.obj _ _ st5)
    refine wpAny_passesOwn hp (thn (hg _ s5 σ3 H5 x u _ I5' r5 (step x H5 y5)) fun _ s6 ⟨σ6, H6, I6, q6⟩ => ?_)
    refine wpAny_passesOwn hp (thn (hb _ s6 σ6 H6 _ I6 q6) fun f s7 q7 => ?_)
    have again : ∀ {σ7 : St} {H7 : Hp}, Inv X (pins ++ pinsAt fp s5.heap) σ7 H7 s7 → N σ7 H7 → ∃ m, m < n ∧ ∃ i σ' H', Inv X pins σ' H' s7 ∧ tn i s7.heap ∧ (∀ b ∈ fp, H' b = none) ∧ W i m σ' H' := fun {σ7 H7} I7 n7 => by
      obtain ⟨m', hm, w7⟩ := hN σ7 H7 n7
      refine ⟨m', hm, i + 1, σ7, H7, I7.unpinned, T.keep _ _ _ st5 fun b hb o e => (I7.pin (b, o) (List.mem_append_right _ (List.mem_append_right _ (mem_pinsAt hb e)))).1, fun b hb => ?_, w7⟩
      obtain ⟨o, e, d⟩ := T.obj _ _ st5 b hb
      exact (I7.pin (b, o) (List.mem_append_right _ (List.mem_append_right _ (mem_pinsAt hb e)))).2.1
    cases f with
    | next => obtain ⟨σ7, H7, I7, n7⟩ := q7; exact again I7 n7
    | cont => obtain ⟨σ7, H7, I7, n7⟩ := q7; exact again I7 n7
    | brk => obtain ⟨σ7, H7, I7, q7⟩ := q7; exact ⟨σ7, H7, I7.unpinned, q7⟩
    | ret v => obtain ⟨x7, σ7, H7, I7, r7, q7⟩ := q7; exact ⟨x7, σ7, H7, I7.unpinned, r7, q7⟩
end
theorem for_list {K : PySem.W.Frag} {a : Addr} {xs : List V} {g : TG} {tb : TS} {D : Ends} {σ : St} {H : Hp} (Pv : Nat → St → Hp → Prop) (h0 : Pv 0 σ H) (hl : ∀ i σ H, i ≤ xs.length → Pv i σ H → SqL K H a xs)
    (hs : ∀ i x σ H, xs[i]? = some x → Pv i σ H → g x σ H fun σ2 H2 => tb { D with nx := Pv (i + 1), ct := Pv (i + 1), bk := D.nx } σ2 H2) (hd : ∀ σ H, Pv xs.length σ H → D.nx σ H) :
    ∃ W : Nat → Nat → St → Hp → Prop, (∃ m, W 0 m σ H) ∧ ∀ i m σ H, W i m σ H →
      ((Itl K a).stop i H ∧ D.nx σ H) ∨ ((Itl K a).go i H ∧ ∃ N : St → Hp → Prop, (∀ σ' H', N σ' H' → ∃ m', m' < m ∧ W (i + 1) m' σ' H') ∧ ∀ x H', (Itl K a).yld i H x H' → g x σ H' fun σ2 H2 => tb { D with nx := N, ct := N, bk := D.nx } σ2 H2) := by
  refine ⟨fun i m σ H => m = xs.length - i ∧ i ≤ xs.length ∧ Pv i σ H, ⟨xs.length, by simp, Nat.zero_le _, h0⟩, ?_⟩
  rintro i m σ H ⟨rfl, hi, p⟩
  have q := hl i σ H hi p
  by_cases hlt : i < xs.length
  · refine .inr ⟨⟨xs, xs[i], q, by simp [hlt]⟩, Pv (i + 1), fun σ' H' p' => ⟨xs.length - (i + 1), by omega, rfl, hlt, p'⟩, fun x H' y => ?_⟩
    obtain ⟨e, y⟩ := y
    subst e
    exact hs i x σ _ (y xs q) p
  · have e : i = xs.length := by omega
    subst e
    exact .inl ⟨⟨xs, q, Nat.le_refl _⟩, hd σ H p⟩
theorem for_range {lo : Int} {n : Nat} {g : TG} {tb : TS} {D : Ends} {σ : St} {H : Hp} (Pv : Nat → St → Hp → Prop) (h0 : Pv 0 σ H)
    (hs : ∀ i σ H, i < n → Pv i σ H → g (.int (lo + i)) σ H fun σ2 H2 => tb { D with nx := Pv (i + 1), ct := Pv (i + 1), bk := D.nx } σ2 H2) (hd : ∀ σ H, Pv n σ H → D.nx σ H) :
    ∃ W : Nat → Nat → St → Hp → Prop, (∃ m, W 0 m σ H) ∧ ∀ i m σ H, W i m σ H →
      ((Itr lo n).stop i H ∧ D.nx σ H) ∨ ((Itr lo n).go i H ∧ ∃ N : St → Hp → Prop, (∀ σ' H', N σ' H' → ∃ m', m' < m ∧ W (i + 1) m' σ' H') ∧ ∀ x H', (Itr lo n).yld i H x H' → g x σ H' fun σ2 H2 => tb { D with nx := N, ct := N, bk := D.nx } σ2 H2) := by
  refine ⟨fun i m σ H => m = n - i ∧ i ≤ n ∧ Pv i σ H, ⟨n, by simp, Nat.zero_le _, h0⟩, ?_⟩
  rintro i m σ H ⟨rfl, hi, p⟩
  by_cases hlt : i < n
  · refine .inr ⟨hlt, Pv (i + 1), fun σ' H' p' => ⟨n - (i + 1), by omega, rfl, hlt, p'⟩, fun x H' y => ?_⟩
    obtain ⟨e, y⟩ := y
    subst e y
    exact hs i σ _ hlt p
  · have e : i = n := by omega
    subst e
    exact .inl ⟨Nat.le_refl _, hd σ H p⟩
end L2
namespace L2
open PySem PySem.Spec PyProof.Rows
abbrev R2 := V → V → Hp → VK → Prop
def OpR (X : Cx) (f : Value → Value → Sem Value) (r : R2) : Prop :=
  ∀ (pins : List (Addr × Obj)) (s : Shared) (σ : St) (H : Hp) (x y : V) (v u : Value) (Q : VK), Inv X pins σ H s → RelV x v → RelV y u → r x y H Q →
    wpAny (model X.prog X.w) X.A (f v u) (EP X pins σ Q) X.xe s
def UnR (X : Cx) (f : Value → Sem Value) (r : V → Hp → VK → Prop) : Prop :=
  ∀ (pins : List (Addr × Obj)) (s : Shared) (σ : St) (H : Hp) (x : V) (v : Value) (Q : VK), Inv X pins σ H s → RelV x v → r x H Q →
    wpAny (model X.prog X.w) X.A (f v) (EP X pins σ Q) X.xe s
def CallR (X : Cx) (f : Value) (r : List V → Hp → VK → Prop) : Prop :=
  ∀ (pins : List (Addr × Obj)) (s : Shared) (σ : St) (H : Hp) (xs : List V) (us : List Value) (Q : VK), Inv X pins σ H s → Vals xs us → r xs H Q →
    wpAny (model X.prog X.w) X.A (call f us) (EP X pins σ Q) X.xe s
def tOp (r : R2) (ta tb : TE) : TE := fun σ H Q => ta σ H fun x H1 => tb σ H1 fun y H2 => r x y H2 Q
def tUn (r : V → Hp → VK → Prop) (ta : TE) : TE := fun σ H Q => ta σ H fun x H1 => r x H1 Q
def rI (C : Int → Int → Prop) (g : Int → Int → V) : R2 := fun x y H Q => ∃ i j, x = .int i ∧ y = .int j ∧ C i j ∧ Q (g i j) H
def rI0 (g : Int → Int → V) : R2 := fun x y H Q => ∃ i j, x = .int i ∧ y = .int j ∧ Q (g i j) H
def rU (g : Int → V) : V → Hp → VK → Prop := fun x H Q => ∃ i, x = .int i ∧ Q (g i) H
section
variable {X : Cx} {a b c : Expr} {ta tb tc : TE} {pos : Pos}
theorem binT (ha : PE X a ta) (hb : PE X b tb) {pins : List (Addr × Obj)} {s : Shared} {σ : St} {H : Hp} {R : V → V → Hp → Prop} (I : Inv X pins σ H s)
    (h : ta σ H fun x H1 => tb σ H1 fun y H2 => R x y H2) {Q : Value → Shared → Prop} {f : Value → Value → Sem Value}
    (hf : ∀ v u s2 x y H2, Inv X pins σ H2 s2 → RelV x v → RelV y u → R x y H2 → wpAny (model X.prog X.w) X.A (f v u) Q X.xe s2) :
    wpAny (model X.prog X.w) X.A (eval a X.env) (fun v s₁ => wpAny (model X.prog X.w) X.A (eval b X.env) (fun u s₂ => wpAny (model X.prog X.w) X.A (f v u) Q X.xe s₂) X.xe s₁) X.xe s := by
  refine thn (ha pins s σ H _ I h) fun v s1 ⟨x, H1, I1, r1, q1⟩ => ?_
  refine thn (hb pins s1 σ H1 _ I1 q1) fun u s2 ⟨y, H2, I2, r2, q2⟩ => ?_
  exact hf v u s2 x y H2 I2 r1 r2 q2
theorem pe_op {op : Operator} {r : R2} (ho : OpR X (binaryOp op) r) (ha : PE X a ta) (hb : PE X b tb) : PE X (.BinOp a op b pos) (tOp r ta tb) := by
  intro pins s σ H Q I h
  exact wpAny_BinOp (binT ha hb I h fun v u s2 x y H2 I2 rx ry q => ho pins s2 σ H2 x y v u Q I2 rx ry q)
theorem pe_un {op : UnaryOp} {r : V → Hp → VK → Prop} (ho : UnR X (unaryOp op) r) (ha : PE X a ta) : PE X (.UnaryOp op a pos) (tUn r ta) := by
  intro pins s σ H Q I h
  exact UnaryOp_ (thn (ha pins s σ H _ I h) fun v s1 ⟨x, H1, I1, r1, q1⟩ => ho pins s1 σ H1 x v Q I1 r1 q1)
theorem opI {f : Value → Value → Sem Value} {C : Int → Int → Prop} {g : Int → Int → Int}
    (rule : ∀ (i j : Int) (t u : Tok) (s : Shared) (Q : Value → Shared → Prop) (E : Value → Shared → Prop), C i j → Q (.int (g i j) s.toks) { s with toks := s.toks + 1 } → wpAny (model X.prog X.w) X.A (f (.int i t) (.int j u)) Q E s) :
    OpR X f (rI C fun i j => .int (g i j)) := by
  intro pins s σ H x y v u Q I rx ry h
  obtain ⟨i, j, rfl, rfl, hc, q⟩ := h
  obtain ⟨t, rfl⟩ := rx
  obtain ⟨t', rfl⟩ := ry
  exact rule i j t t' s _ _ hc ⟨.int (g i j), H, I.tok _, ⟨_, rfl⟩, q⟩
theorem opI0 {f : Value → Value → Sem Value} {g : Int → Int → Int}
    (rule : ∀ (i j : Int) (t u : Tok) (s : Shared) (Q : Value → Shared → Prop) (E : Value → Shared → Prop), Q (.int (g i j) s.toks) { s with toks := s.toks + 1 } → wpAny (model X.prog X.w) X.A (f (.int i t) (.int j u)) Q E s) :
    OpR X f (rI0 fun i j => .int (g i j)) := by
  intro pins s σ H x y v u Q I rx ry h
  obtain ⟨i, j, rfl, rfl, q⟩ := h
  obtain ⟨t, rfl⟩ := rx
  obtain ⟨t', rfl⟩ := ry
  exact rule i j t t' s _ _ ⟨.int (g i j), H, I.tok _, ⟨_, rfl⟩, q⟩
theorem opB0 {f : Value → Value → Sem Value} {g : Int → Int → Bool}
    (rule : ∀ (i j : Int) (t u : Tok) (s : Shared) (Q : Value → Shared → Prop) (E : Value → Shared → Prop), Q (.bool (g i j)) s → wpAny (model X.prog X.w) X.A (f (.int i t) (.int j u)) Q E s) :
    OpR X f (rI0 fun i j => .bl (g i j)) := by
  intro pins s σ H x y v u Q I rx ry h
  obtain ⟨i, j, rfl, rfl, q⟩ := h
  obtain ⟨t, rfl⟩ := rx
  obtain ⟨t', rfl⟩ := ry
  exact rule i j t t' s _ _ ⟨.bl (g i j), H, I, rfl, q⟩
theorem op_add : OpR X (binaryOp .Add) (rI0 fun i j => .int (i + j)) := opI0 fun _ _ _ _ _ _ _ q => add_int q
theorem op_sub : OpR X (binaryOp .Sub) (rI0 fun i j => .int (i - j)) := opI0 fun _ _ _ _ _ _ _ q => sub_int q
theorem op_mod : OpR X (binaryOp .Mod) (rI (fun _ j => 0 < j) fun i j => .int (i % j)) := opI fun i j _ _ _ _ _ hc q => by
  have h1 : (0 : Int) < j := hc
  exact mod_int' (by omega) (by rw [Int.fmod_eq_emod_of_nonneg i (by omega)]; exact q)
theorem unI {f : Value → Sem Value} {g : Int → Int}
    (rule : ∀ (i : Int) (t : Tok) (s : Shared) (Q : Value → Shared → Prop) (E : Value → Shared → Prop), Q (.int (g i) s.toks) { s with toks := s.toks + 1 } → wpAny (model X.prog X.w) X.A (f (.int i t)) Q E s) :
    UnR X f (rU fun i => .int (g i)) := by
  intro pins s σ H x v Q I rx h
  obtain ⟨i, rfl, q⟩ := h
  obtain ⟨t, rfl⟩ := rx
  exact rule i t s _ _ ⟨.int (g i), H, I.tok _, ⟨_, rfl⟩, q⟩
theorem un_neg : UnR X (unaryOp .USub) (rU fun i => .int (-i)) := unI fun _ _ _ _ _ q => neg_int q
end
def scal : V → V → Bool
  | .non, .non => true | .non, .int _ => true | .int _, .non => true | .non, .bl _ => true | .bl _, .non => true | .non, .str _ => true | .str _, .non => true
  | .int _, .int _ => true | .bl _, .bl _ => true | .str _, .str _ => true | .byt _, .byt _ => true
  | .int _, .str _ => true | .str _, .int _ => true | .bl _, .str _ => true | .str _, .bl _ => true
  | _, _ => false
def rEq : R2 := fun x y H Q => scal x y = true ∧ Q (.bl (decide (x = y))) H
def rNe : R2 := fun x y H Q => scal x y = true ∧ Q (.bl (!decide (x = y))) H
theorem dec_int {i j : Int} : decide (V.int i = V.int j) = (i == j) := by
  rw [Bool.eq_iff_iff]
  simp
theorem dec_bl {i j : Bool} : decide (V.bl i = V.bl j) = (i == j) := by
  rw [Bool.eq_iff_iff]
  simp
theorem dec_str {i j : Str} : decide (V.str i = V.str j) = (i == j) := by
  rw [Bool.eq_iff_iff]
  simp
theorem dec_byt {i j : Array UInt8} : decide (V.byt i = V.byt j) = (i.toList == j.toList) := by
  rw [Bool.eq_iff_iff]
  cases i
  cases j
  simp
section
variable {X : Cx} {a b c : Expr} {ta tb tc : TE} {pos : Pos}
theorem fin_bl {pins : List (Addr × Obj)} {σ : St} {H : Hp} {s : Shared} {Q : VK} {k k' : Bool} (I : Inv X pins σ H s) (q : Q (.bl k) H) (e : k = k') : EP X pins σ Q (.bool k') s := by
  subst e
  exact ⟨.bl k, H, I, rfl, q⟩
theorem op_eq : OpR X (compareOp .Eq) rEq := by
  intro pins s σ H x y v u Q I rx ry h
  obtain ⟨hs, q⟩ := h
  cases x with
  | non =>
    cases rx
    cases y with
    | non => cases ry; exact PySem.EqNone.eq_none_none (fin_bl I q (by simp))
    | bl j => cases ry; exact PySem.EqNone.eq_none_bool (fin_bl I q (by simp))
    | int j => obtain ⟨t', rfl⟩ := ry; exact PySem.EqNone.eq_none_int (fin_bl I q (by simp))
    | str j => obtain ⟨t', rfl⟩ := ry; exact PySem.EqNone.eq_none_str (fin_bl I q (by simp))
    | _ => exact absurd (show false = true from hs) Bool.false_ne_true
  | bl i =>
    cases rx
    cases y with
    | non => cases ry; exact PySem.EqNone.eq_bool_none (fin_bl I q (by simp))
    | bl j => cases ry; exact eq_bool (fin_bl I q dec_bl)
    | str j => obtain ⟨t', rfl⟩ := ry; exact PySem.EqMixed.eq_bool_str (fin_bl I q (by simp))
    | _ => exact absurd (show false = true from hs) Bool.false_ne_true
  | int i =>
    obtain ⟨t, rfl⟩ := rx
    cases y with
    | non => cases ry; exact PySem.EqNone.eq_int_none (fin_bl I q (by simp))
    | int j => obtain ⟨t', rfl⟩ := ry; exact eq_int (fin_bl I q dec_int)
    | str j => obtain ⟨t', rfl⟩ := ry; exact PySem.EqMixed.eq_int_str (fin_bl I q (by simp))
    | _ => exact absurd (show false = true from hs) Bool.false_ne_true
  | str i =>
    obtain ⟨t, rfl⟩ := rx
    cases y with
    | non => cases ry; exact PySem.EqNone.eq_str_none (fin_bl I q (by simp))
    | bl j => cases ry; exact PySem.EqMixed.eq_str_bool (fin_bl I q (by simp))
    | int j => obtain ⟨t', rfl⟩ := ry; exact PySem.EqMixed.eq_str_int (fin_bl I q (by simp))
    | str j => obtain ⟨t', rfl⟩ := ry; exact eq_str (fin_bl I q dec_str)
    | _ => exact absurd (show false = true from hs) Bool.false_ne_true
  | byt i =>
    obtain ⟨t, rfl⟩ := rx
    cases y with
    | byt j => obtain ⟨t', rfl⟩ := ry; exact PySem.W.eq_bytes (fin_bl I q dec_byt)
    | _ => exact absurd (show false = true from hs) Bool.false_ne_true
  | _ => cases y <;> exact absurd (show false = true from hs) Bool.false_ne_true
theorem op_ne : OpR X (compareOp .NotEq) rNe := by
  intro pins s σ H x y v u Q I rx ry h
  obtain ⟨hs, q⟩ := h
  cases x with
  | non =>
    cases rx
    cases y with
    | non => cases ry; exact PySem.EqNone.ne_none_none (fin_bl I q (by simp))
    | bl j => cases ry; exact PySem.EqNone.ne_none_bool (fin_bl I q (by simp))
    | int j => obtain ⟨t', rfl⟩ := ry; exact PySem.EqNone.ne_none_int (fin_bl I q (by simp))
    | str j => obtain ⟨t', rfl⟩ := ry; exact PySem.EqNone.ne_none_str (fin_bl I q (by simp))
    | _ => exact absurd (show false = true from hs) Bool.false_ne_true
  | bl i =>
    cases rx
    cases y with
    | non => cases ry; exact PySem.EqNone.ne_bool_none (fin_bl I q (by simp))
    | bl j => cases ry; exact ne_bool (fin_bl I q (congrArg not dec_bl))
    | str j => obtain ⟨t', rfl⟩ := ry; exact PySem.EqMixed.ne_bool_str (fin_bl I q (by simp))
    | _ => exact absurd (show false = true from hs) Bool.false_ne_true
  | int i =>
    obtain ⟨t, rfl⟩ := rx
    cases y with
    | non => cases ry; exact PySem.EqNone.ne_int_none (fin_bl I q (by simp))
    | int j => obtain ⟨t', rfl⟩ := ry; exact ne_int (fin_bl I q (congrArg not dec_int))
    | str j => obtain ⟨t', rfl⟩ := ry; exact PySem.EqMixed.ne_int_str (fin_bl I q (by simp))
    | _ => exact absurd (show false = true from hs) Bool.false_ne_true
  | str i =>
    obtain ⟨t, rfl⟩ := rx
    cases y with
    | non => cases ry; exact PySem.EqNone.ne_str_none (fin_bl I q (by simp))
    | bl j => cases ry; exact PySem.EqMixed.ne_str_bool (fin_bl I q (by simp))
    | int j => obtain ⟨t', rfl⟩ := ry; exact PySem.EqMixed.ne_str_int (fin_bl I q (by simp))
    | str j => obtain ⟨t', rfl⟩ := ry; exact ne_str (fin_bl I q (congrArg not dec_str))
    | _ => exact absurd (show false = true from hs) Bool.false_ne_true
  | byt i =>
    obtain ⟨t, rfl⟩ := rx
    cases y with
    | byt j => obtain ⟨t', rfl⟩ := ry; exact PySem.W.ne_bytes (fin_bl I q (congrArg not dec_byt))
    | _ => exact absurd (show false = true from hs) Bool.false_ne_true
  | _ => cases y <;> exact absurd (show false = true from hs) Bool.false_ne_true
theorem op_lt : OpR X (compareOp .Lt) (rI0 fun i j => .bl (decide (i < j))) := opB0 fun _ _ _ _ _ _ _ q => lt_int q
theorem op_le : OpR X (compareOp .LtE) (rI0 fun i j => .bl (decide (i ≤ j))) := opB0 fun _ _ _ _ _ _ _ q => le_int q
theorem op_gt : OpR X (compareOp .Gt) (rI0 fun i j => .bl (decide (j < i))) := opB0 fun _ _ _ _ _ _ _ q => gt_int q
theorem op_ge : OpR X (compareOp .GtE) (rI0 fun i j => .bl (decide (j ≤ i))) := opB0 fun _ _ _ _ _ _ _ q => ge_int q
theorem nomark (b : Expr) {op : CmpOp} (h : op ≠ .In := by decide) (h2 : op ≠ .NotIn := by decide) : behindInMarks op b = false := by
  have e1 : (op == CmpOp.In) = false := by cases op <;> first | rfl | exact absurd rfl h
  have e2 : (op == CmpOp.NotIn) = false := by cases op <;> first | rfl | exact absurd rfl h2
  cases b <;> simp [behindInMarks, e1, e2]
theorem pe_cmpR {op : CmpOp} {r : R2} (ho : OpR X (compareOp op) r) (ha : PE X a ta) (hb : PE X b tb) (hm : behindInMarks op b = false) : PE X (.Compare a [op] [b] pos) (tOp r ta tb) := by
  intro pins s σ H Q I h
  exact wpAny_Compare1 (binT ha hb I h fun v u s2 x y H2 I2 rx ry q => ho pins s2 σ H2 x y v u Q I2 rx ry q) hm
def tTest (t : TE) : TT := fun σ H Q => t σ H fun x H' => ∃ k, x = .bl k ∧ Q k H'
theorem pt_cmpR {op : CmpOp} {r : R2} (ho : OpR X (compareOp op) r) (ha : PE X a ta) (hb : PE X b tb) (hm : behindInMarks op b = false) : PT X (.Compare a [op] [b] pos) (tTest (tOp r ta tb)) := by
  intro pins s σ H Q I h
  refine wpAny_isTrue_Compare1 (thn (ha pins s σ H _ I h) fun v s1 ⟨x, H1, I1, r1, q1⟩ => thn (hb pins s1 σ H1 _ I1 q1) fun u s2 ⟨y, H2, I2, r2, q2⟩ =>
    thn (ho pins s2 σ H2 x y v u _ I2 r1 r2 q2) fun c s3 ⟨z, H3, I3, r3, k, e, q3⟩ => ?_) hm
  subst e
  cases r3
  exact wpAny_truthy_bool ⟨H3, I3, q3⟩
def tChain (r r' : R2) (ta tb tc : TE) : TE := fun σ H Q => ta σ H fun x H1 => tb σ H1 fun y H2 => r x y H2 fun z H3 => ∃ k, z = .bl k ∧
  (if k = true then tc σ H3 fun w' H4 => r' y w' H4 Q else Q (.bl false) H3)
theorem pt_chain {op op' : CmpOp} {r r' : R2} (ho : OpR X (compareOp op) r) (ho' : OpR X (compareOp op') r') (ha : PE X a ta) (hb : PE X b tb) (hc : PE X c tc)
    (hm : lastMarks [op, op'] [b, c] = false := by with_unfolding_all rfl) : PT X (.Compare a [op, op'] [b, c] pos) (tTest (tChain r r' ta tb tc)) := by
  intro pins s σ H Q I h
  refine isTrue_chain (thn (ha pins s σ H _ I h) fun v s1 ⟨x, H1, I1, r1, q1⟩ => test_link (thn (hb pins s1 σ H1 _ I1 q1) fun u s2 ⟨y, H2, I2, r2, q2⟩ =>
    thn (ho pins s2 σ H2 x y v u _ I2 r1 r2 q2) fun d s3 ⟨z, H3, I3, r3, k, e, q3⟩ => ?_)) hm
  subst e
  cases r3
  refine wpAny_truthy_bool ?_
  cases k with
  | false =>
    obtain ⟨k', e', q'⟩ := q3
    cases e'
    exact ite_ff ⟨H3, I3, q'⟩
  | true =>
    refine ite_tt (test_last (thn (hc pins s3 σ H3 _ I3 q3) fun w' s4 ⟨z', H4, I4, r4, q4⟩ => thn (ho' pins s4 σ H4 y z' u w' _ I4 r2 r4 q4) fun d' s5 ⟨z2, H5, I5, r5, k2, e2, q5⟩ => ?_))
    subst e2
    cases r5
    exact wpAny_truthy_bool ⟨H5, I5, q5⟩
theorem line63 : (sizeLine : Nat) < 2 ^ 63 := by rw [sizeLine_eq]; decide
theorem vals1 {x : V} {us : List Value} (r : Vals [x] us) : ∃ u, us = [u] ∧ RelV x u := by
  cases r with
  | cons r1 r2 => cases r2; exact ⟨_, rfl, r1⟩
theorem vals2 {x y : V} {us : List Value} (r : Vals [x, y] us) : ∃ u w', us = [u, w'] ∧ RelV x u ∧ RelV y w' := by
  cases r with
  | cons r1 r2 =>
    cases r2 with
    | cons r3 r4 => cases r4; exact ⟨_, _, rfl, r1, r3⟩
theorem call_abs : CallR X (.builtin "abs") (fun xs H Q => ∃ i, xs = [.int i] ∧ Q (.int (if i < 0 then -i else i)) H) := by
  intro pins s σ H xs us Q I r h
  obtain ⟨i, rfl, q⟩ := h
  obtain ⟨u, rfl, t, rfl⟩ := vals1 r
  exact call_abs_int fun u tk => ⟨.int (if i < 0 then -i else i), H, I.tok _, ⟨_, rfl⟩, q⟩
theorem call_max2 (hc : X.calm = true) : CallR X (.builtin "max") (fun xs H Q => ∃ i j, xs = [.int i, .int j] ∧ Q (.int (if j > i then j else i)) H) := by
  intro pins s σ H xs us Q I r h
  obtain ⟨i, j, rfl, q⟩ := h
  obtain ⟨u, w', rfl, ⟨t, rfl⟩, ⟨t', rfl⟩⟩ := vals2 r
  refine max_two_ints (I.ok.hd hc) fun h' tk k => ⟨_, H, I.kept k, ?_, q⟩
  by_cases hj : j > i
  · rw [if_pos hj, if_pos hj]; exact ⟨_, rfl⟩
  · rw [if_neg hj, if_neg hj]; exact ⟨_, rfl⟩
theorem call_int1 : CallR X (.type "int") (fun xs H Q => (∃ i, xs = [.int i] ∧ Q (.int i) H) ∨ ∃ k, xs = [.bl k] ∧ Q (.int (if k then 1 else 0)) H) := by
  intro pins s σ H xs us Q I r h
  rcases h with ⟨i, rfl, q⟩ | ⟨k, rfl, q⟩
  · obtain ⟨u, rfl, t, rfl⟩ := vals1 r
    exact call_int_int ⟨.int i, H, I, ⟨_, rfl⟩, q⟩
  · obtain ⟨u, rfl, r1⟩ := vals1 r
    cases r1
    exact call_int_bool ⟨.int (if k then 1 else 0), H, I.tok _, ⟨_, rfl⟩, q⟩
end
end L2
namespace L2
open PySem PySem.Spec PyProof.Rows
structure ObjM (h : Heap) (x dx C : Addr) (mA : Str → Option Value) : Prop where
  obj : h.get? x = some (PySem.W.instObj C dx)
  ns : h.Ns1 dx mA
  ne : dx ≠ x
section
variable {prog : Program} {w : World} {A : Around} {E : Value → Shared → Prop} {s : Shared} {K : PySem.W.Frag} {x dx C f : Addr} {mA : Str → Option Value} {name : Str} {v : Value}
end
section
variable {P : Program} {w : World} {H H' : Hp} {h h' : Heap} {a C dx : Addr} {fs fs' : List (Str × V)}
end
structure Cls (K : PySem.W.Frag) (C : Addr) : Prop where
  pg : PySem.W.plainGet K C Str.empty = true
  hd : PySem.W.hasDictIn K C = true
  po : PySem.W.plainOver K C = true
  sa : PySem.W.findIn K (.ref C) "__setattr__" = some (some (.builtin "object.__setattr__"))
theorem Cls.get {K : PySem.W.Frag} {C : Addr} (c : Cls K C) (f : Str) : PySem.W.plainGet K C f = true := c.pg
structure Con (K : PySem.W.Frag) (C : Addr) (f : Str) (v : V) (u : Value) : Prop where
  at_ : PySem.W.findIn K (.ref C) f = some (some u)
  rel : RelV v u
  get : PySem.W.specialIn K u "__get__" = some none
  cp : PySem.W.copiedNames.contains f = false
structure Meth (K : PySem.W.Frag) (C : Addr) (m : Str) (f : Addr) : Prop where
  at_ : PySem.W.findIn K (.ref C) m = some (some (.ref f))
  fn : PySem.W.isFn K (.ref f) = true
  kp : PySem.W.keepIn K (.ref f) = true
section
variable {X : Cx} {pins : List (Addr × Obj)} {σ : St} {H : Hp} {s : Shared} {a C dx : Addr} {fs : List (Str × V)} {f : Str} {v : V} {A : Around} {E : Value → Shared → Prop}
end
section
variable {X : Cx} {o e value : Expr} {f : Str} {pos pos' tpos : Pos} {ta tv : TE}
end
section
variable {X : Cx} {pins : List (Addr × Obj)} {σ : St} {H : Hp} {s : Shared} {A : Around} {E : Value → Shared → Prop} {Q : Value → Shared → Prop} {c : Value} {b : Bool}
inductive TyOf (K : PySem.W.Frag) (H : Hp) : V → Value → Prop where
  | non : TyOf K H .non (.type "NoneType")
  | bl (x : Bool) : TyOf K H (.bl x) (.type "bool")
  | int (i : Int) : TyOf K H (.int i) (.type "int")
  | str (x : Str) : TyOf K H (.str x) (.type "str")
  | flt (x : UInt64) : TyOf K H (.flt x) (.type "float")
  | lst {a : Addr} {xs : List V} (e : H a = some (.lst xs)) : TyOf K H (.ref a) (.type "list")
  | frz {a : Addr} {o : Obj} {xs : List V} (e : H a = some (.frz o (.lst xs))) : TyOf K H (.ref a) (.type "list")
  | tup {a : Addr} {xs : List V} (e : H a = some (.tup xs)) : TyOf K H (.ref a) (.type "tuple")
  | dK {a : Addr} {kvs : List (Key × V)} (e : H a = some (.dK kvs)) : TyOf K H (.ref a) (.type "dict")
  | dT {a : Addr} {kvs : List (List Key × V)} (e : H a = some (.dT kvs)) : TyOf K H (.ref a) (.type "dict")
  | ins {a C dx : Addr} {fs : List (Str × V)} (e : H a = some (.ins C dx fs)) (cl : Cls K C) (ha : PySem.W.findIn K (.ref C) "__class__" = some (some (.builtin "object.__class__")))
      (hn : PySem.W.specialIn K (.builtin "object.__class__") "__get__" = some (some (.builtin "getset_descriptor.__get__"))) (htk : PySem.W.takesIn K (.builtin "object.__class__") = some true)
      (hm : PySem.W.mroIn K C (.type "object") = some true) : TyOf K H (.ref a) (.ref C)
end
end L2
namespace L2
open PySem PySem.Spec PyProof.Rows
structure Room (k : Nat) (A : Around) : Prop where
  hd : A.handled = none
  dp : A.depth + 3 * k + 5 < recursionLimit
  un : A.units + 16 * k + 200 < cLine
theorem Room.mono {j k : Nat} {A : Around} (r : Room k A) (h : j ≤ k) : Room j A := ⟨r.hd, by have := r.dp; omega, by have := r.un; omega⟩
theorem Room.deeper {k : Nat} {A : Around} (r : Room (k + 1) A) (env : Env) : Room k (A.deeper env) :=
  ⟨r.hd, by have := r.dp; show A.depth + 1 + 3 * k + 5 < _; omega, by have := r.un; show A.units + 3 + 16 * k + 200 < _; omega⟩
theorem Room.depth {k : Nat} {A : Around} (r : Room k A) : A.depth < recursionLimit := by have := r.dp; omega
theorem Room.units {k : Nat} {A : Around} (r : Room k A) : A.units + 64 < cLine := by have := r.un; omega
def tNil : TA := fun _ H Q => Q [] H
def tCons (ta : TE) (tr : TA) : TA := fun σ H Q => ta σ H fun x H1 => tr σ H1 fun xs H2 => Q (x :: xs) H2
section
variable {X : Cx} {e : Expr} {es : List Expr} {te : TE} {t : TA} {pos : Pos}
theorem pa_nil : PA X [] tNil := fun _ _ _ _ H Q I h => Calls.spliced_nil ⟨[], H, I, .nil, h⟩
theorem pa_cons (ha : PE X e te) (hr : PA X es t) (hs : starEach (e :: es) X.env = (false, eval e X.env) :: starEach es X.env := by rfl) : PA X (e :: es) (tCons te t) := by
  intro pos pins s σ H Q I h
  rw [hs]
  show wpAny _ _ (spliced ((false, eval e X.env) :: backTo pos (starEach es X.env))) _ _ s
  refine Calls.spliced_cons (thn (ha pins s σ H _ I h) fun u s1 ⟨x, H1, I1, r1, q1⟩ => ?_)
  exact thn (hr pos pins s1 σ H1 _ I1 q1) fun us s2 ⟨xs, H2, I2, r2, q2⟩ => ⟨x :: xs, H2, I2, .cons r1 r2, q2⟩
def tTup (t : TA) : TE := fun σ H Q => t σ H fun xs H1 => xs.length ≤ sizeLine ∧ ∀ p, H1 p = none → Q (.ref p) (upd H1 p (.tup xs))
def tLst (t : TA) : TE := fun σ H Q => t σ H fun xs H1 => xs.length ≤ sizeLine ∧ ∀ p, H1 p = none → Q (.ref p) (upd H1 p (.lst xs))
theorem pe_tup {x1} (h : PA X es t) : PE X (.Tuple es x1 pos) (tTup t) := by
  intro pins s σ H Q I hq
  refine wpAny_Tuple_spliced (thn (h pos pins s σ H _ I hq) fun us s1 ⟨xs, H1, I1, r, z, q⟩ => ⟨by rw [← r.length]; exact z, ?_⟩)
  have hf : H1 s1.heap.objs.size = none := I1.hok.fresh (Nat.le_refl _)
  refine ⟨.ref s1.heap.objs.size, upd H1 s1.heap.objs.size (.tup xs), I1.laid (t' := s1.toks) (fun b u e => Heap.get?_push_of_some _ e) (Nat.le_refl _) ?_, rfl, q _ hf⟩
  exact ⟨z, us, r, ⟨_, Heap.get?_push_size _ rfl, rfl, _, rfl⟩⟩
theorem pe_lst (h : PA X es t) : PE X (.List es pos) (tLst t) := by
  intro pins s σ H Q I hq
  refine wpAny_List_spliced (thn (h pos pins s σ H _ I hq) fun us s1 ⟨xs, H1, I1, r, z, q⟩ => ⟨by rw [← r.length]; exact z, ?_⟩)
  have hf : H1 s1.heap.objs.size = none := I1.hok.fresh (Nat.le_refl _)
  refine ⟨.ref s1.heap.objs.size, upd H1 s1.heap.objs.size (.lst xs), I1.laid (t' := s1.toks) (fun b u e => Heap.get?_push_of_some _ e) (Nat.le_refl _) ?_, rfl, q _ hf⟩
  exact ⟨z, us, 0, r, Heap.get?_push_size _ rfl⟩
end
abbrev Sp := List V → Hp → VK → XK → Prop
abbrev CXT := List Env → Hp → Shared → XK → Value → Shared → Prop
structure Env0 (P : Program) (w : World) (K : PySem.W.Frag) (mg : Str → Option Value) (base : Heap) (A : Around) (outer : List Env) (s : Shared) (H : Hp) : Prop where
  frames : A.frames = some outer
  mod : Mod K mg base
  bs : ∀ b o, base.get? b = some o → s.heap.get? b = some o ∧ H b = none
  bsz : base.objs.size ≤ s.heap.objs.size
  funs : s.heap.FunFrames base outer
  frf : ∀ b ∈ frs outer, H b = none
  hok : HOk P w H s.heap
  bare : AllBare s.gens
def CE (outer : List Env) (P : Program) (w : World) (H : Hp) (s : Shared) (Q : VK) (u : Value) (s' : Shared) : Prop :=
  ∃ v H', s'.os = s.os ∧ AllBare s'.gens ∧ Un (frs outer) [] H H' s.heap s'.heap ∧ HOk P w H' s'.heap ∧ RelV v u ∧ Q v H'
def CR (CX : CXT) (outer : List Env) (P : Program) (w : World) (H : Hp) (s : Shared) (Q : VK) (E : XK) (r : Result) (s' : Shared) : Prop :=
  match r with
  | .ok (.ret u) => CE outer P w H s Q u s'
  | .ok _ => False
  | .error e => CX outer H s E e s'
structure FnOk (P : Program) (w : World) (K : PySem.W.Frag) (mg : Str → Option Value) (base : Heap) (CX : CXT) (k : Nat) (f : Addr) (fd : FuncData) (ps : List Str) (sp : Sp) : Prop where
  len : ∀ vs H Q E, sp vs H Q E → vs.length = ps.length
  run : ∀ (A : Around) (outer : List Env) (s : Shared) (H : Hp) (args : Args) (us : List Value) (vs : List V) (Q : VK) (E : XK), Room k A → Env0 P w K mg base A outer s H → BindsTo s fd args (ps.zip us) → Vals vs us → sp vs H Q E →
    codeAny (model P w) A (.call (.ref f) args) (CR CX outer P w H s Q E) s
theorem FnOk.mono {P : Program} {w : World} {K : PySem.W.Frag} {mg : Str → Option Value} {base : Heap} {CX : CXT} {j k : Nat} {f : Addr} {fd : FuncData} {ps : List Str} {sp : Sp} (F : FnOk P w K mg base CX j f fd ps sp) (h : j ≤ k) :
    FnOk P w K mg base CX k f fd ps sp := ⟨F.len, fun A outer s H args us vs Q E hr => F.run A outer s H args us vs Q E (hr.mono h)⟩
section
variable {X : Cx} {pins : List (Addr × Obj)} {σ : St} {H : Hp} {s s' : Shared}
theorem Inv.env0 (I : Inv X pins σ H s) : Env0 X.prog X.w X.K X.mg X.base X.A X.stack s H :=
  ⟨I.ok.frames, I.ok.mod, I.bs, Nat.le_trans I.ok.bsz I.sz, I.stack, I.stkFree, I.hok, I.bare⟩
theorem Inv.after {Q : VK} {u : Value} (I : Inv X pins σ H s) (h : CE X.stack X.prog X.w H s Q u s') : EP X pins σ Q u s' := by
  obtain ⟨v, H', os, bare, un, hok, r, q⟩ := h
  obtain ⟨hh, g, d, t, os'⟩ := s'
  obtain rfl : os' = s.os := os
  exact ⟨v, H', I.call (h' := hh) (g' := g) (d' := d) (t' := t) (ch := []) un hok bare (fun b z => absurd z (by simp)), r, q⟩
end
def tCall (sp : Sp) (dvs : List V) (E : XK) (t : TA) : TE := fun σ H Q => t σ H fun vs H1 => sp (vs ++ dvs) H1 Q E
def Binds (K : PySem.W.Frag) (fd : FuncData) (ps : List Str) (ds : List Value) : Prop :=
  ∀ (s : Shared) (us : List Value), K.In s.heap → (us ++ ds).length = ps.length → BindsTo s fd ⟨us, []⟩ (ps.zip (us ++ ds))
theorem Binds.all {K : PySem.W.Frag} {fd : FuncData} {ps : List Str} (h : ∀ us : List Value, us.length = ps.length → bindArgs fd ⟨us, []⟩ = pure (ps.zip us)) : Binds K fd ps [] := fun s us _ hl => by
  rw [List.append_nil] at hl ⊢
  exact .of_eq (h us hl)
def Passes (CX : CXT) (X : Cx) (E : XK) : Prop := ∀ (pins : List (Addr × Obj)) (σ : St) (H : Hp) (s : Shared) (e : Value) (s' : Shared), Inv X pins σ H s → CX X.stack H s E e s' → X.xe e s'
section
variable {X : Cx} {CX : CXT} {k : Nat} {f C : Addr} {fd : FuncData} {ps : List Str} {sp : Sp} {dvs : List V} {ds : List Value} {E : XK} {x m : Str} {p pos apos : Pos} {e o : Expr} {es : List Expr} {ta : TE} {t : TA}
theorem run_fn {pins : List (Addr × Obj)} {σ : St} {H : Hp} {s : Shared} {Q : VK} {us : List Value} {vs : List V} (F : FnOk X.prog X.w X.K X.mg X.base CX k f fd ps sp) (hr : Room k X.A) (hb : Binds X.K fd ps ds) (hd : Vals dvs ds) (hx : Passes CX X E)
    (I : Inv X pins σ H s) (r : Vals vs us) (h : sp (vs ++ dvs) H Q E) : wpAny (model X.prog X.w) X.A (call (.ref f) us) (EP X pins σ Q) X.xe s := by
  have r2 : Vals (vs ++ dvs) (us ++ ds) := r.append hd
  have hl : (us ++ ds).length = ps.length := by rw [← r2.length]; exact F.len _ _ _ _ h
  refine wpAny_call (codeAny_mono (F.run X.A X.stack s H ⟨us, []⟩ (us ++ ds) (vs ++ dvs) Q E hr I.env0 (hb s us I.kIn hl) r2 h) fun r s' hq => ?_)
  cases r with
  | error e => exact hx pins σ H s e s' I hq
  | ok fl =>
    cases fl with
    | ret u => exact I.after hq
    | next => exact False.elim hq
    | brk => exact False.elim hq
    | cont => exact False.elim hq
theorem pe_call (F : FnOk X.prog X.w X.K X.mg X.base CX k f fd ps sp) (hr : Room k X.A) (hg : Gl X x) (hm : X.mg x = some (.ref f)) (hk : PySem.W.keepIn X.K (.ref f) = true) (hb : Binds X.K fd ps ds) (hd : Vals dvs ds) (hx : Passes CX X E)
    (ha : PA X (e :: es) t) (hdb : (x == ("__debug__" : Str)) = false := by decide) (he : starEach (e :: es) X.env = (false, eval e X.env) :: starEach es X.env := by rfl) (hpl : (backTo pos (starEach es X.env)).any (·.1) = false := by rfl) :
    PE X (.Call (.Name x p) (e :: es) [] pos) (tCall sp dvs E t) := by
  intro pins s σ H Q I h
  refine wpAny_Call_Name_kw (ld_glob I hg hm ?_ hdb)
  refine PySem.W.callWith_K (h₀ := X.base) I.ok.mod.kin hk (thn (ha pos pins s σ H _ I h) fun us s1 ⟨vs, H1, I1, r, q⟩ => ⟨I1.kIn, ?_⟩) he hpl
  exact run_fn F hr hb hd hx I1 r q
structure Mk (K : PySem.W.Frag) (C f : Addr) : Prop where
  makes : PySem.W.makesIn K C = true
  init : PySem.W.findIn K (.ref C) "__init__" = some (some (.ref f))
  fn : PySem.W.isFn K (.ref f) = true
  kp : PySem.W.keepIn K (.ref C) = true
end
section
variable {X : Cx} {CX : CXT} {k : Nat} {f C : Addr} {fd : FuncData} {ps ks : List Str} {sp : Sp} {E : XK} {x m : Str} {p pos apos kpos : Pos} {e o : Expr} {es : List Expr} {kws : List Keyword} {te ta : TE} {t tk : TA} {nm : Option Str}
structure KBinds (K : PySem.W.Frag) (fd : FuncData) (ps ks : List Str) (g : List Value → List Value → List Value) (gV : List V → List V → List V) : Prop where
  to : ∀ (s : Shared) (us ws : List Value), K.In s.heap → (g us ws).length = ps.length → BindsTo s fd ⟨us, ks.zip ws⟩ (ps.zip (g us ws))
  rel : ∀ {vs : List V} {us : List Value} {zs : List V} {ws : List Value}, Vals vs us → Vals zs ws → Vals (gV vs zs) (g us ws)
variable {g : List Value → List Value → List Value} {gV : List V → List V → List V}
end
structure FnScope (N P : List Str) (sc : Scope) : Prop where
  kind : sc.kind = .function
  co : sc.isCoroutine = false
  gen : sc.isGenerator = false
  nd : N.Nodup
  pre : N.take P.length = P
  par : ∀ x ∈ P, sc.names.lookup x = some .local ∨ sc.names.lookup x = some .cell
  nofree : ∀ y ∈ sc.names, y.2 ≠ .free
theorem bindL_out {kindOf : Str → Option NameKind} {x : Str} : ∀ {binds : List (Str × Value)} {m : Str → Option Value}, (∀ v, (x, v) ∉ binds) → bindL kindOf binds m x = m x
  | [], _, _ => rfl
  | (n, v) :: r, m, h => by
    unfold bindL
    rw [bindL_out fun w hw => h w (List.mem_cons_of_mem _ hw)]
    split
    · have : x ≠ n := by rintro rfl; exact h v List.mem_cons_self
      simp [this]
    · rfl
theorem bindC_out {kindOf : Str → Option NameKind} {x : Str} : ∀ {binds : List (Str × Value)} {m : Str → Option Value}, (∀ v, (x, v) ∉ binds) → bindC kindOf binds m x = m x
  | [], _, _ => rfl
  | (n, v) :: r, m, h => by
    unfold bindC
    rw [bindC_out fun w hw => h w (List.mem_cons_of_mem _ hw)]
    split
    · rfl
    · have : x ≠ n := by rintro rfl; exact h v List.mem_cons_self
      simp [this]
theorem bindL_get {kindOf : Str → Option NameKind} {x : Str} {v : Value} : ∀ {P : List Str} {vs : List Value} {i : Nat} {m : Str → Option Value}, P.Nodup → P[i]? = some x → vs[i]? = some v → kindOf x = some .local →
    bindL kindOf (P.zip vs) m x = some v
  | [], _, _, _, _, h, _, _ => by simp at h
  | _ :: _, [], _, _, _, _, h, _ => by simp at h
  | p :: P, w :: vs, 0, m, nd, h1, h2, hk => by
    simp at h1 h2; subst h1; subst h2
    show bindL kindOf ((p, w) :: P.zip vs) m p = _
    unfold bindL
    rw [bindL_out fun v hv => (List.nodup_cons.mp nd).1 (List.of_mem_zip hv).1, if_pos hk]
    simp
  | p :: P, w :: vs, i + 1, m, nd, h1, h2, hk => by
    show bindL kindOf ((p, w) :: P.zip vs) m x = _
    unfold bindL
    exact bindL_get (i := i) (List.nodup_cons.mp nd).2 (by simpa using h1) (by simpa using h2) hk
theorem bindC_get {kindOf : Str → Option NameKind} {x : Str} {v : Value} : ∀ {P : List Str} {vs : List Value} {i : Nat} {m : Str → Option Value}, P.Nodup → P[i]? = some x → vs[i]? = some v → kindOf x ≠ some .local →
    bindC kindOf (P.zip vs) m x = some v
  | [], _, _, _, _, h, _, _ => by simp at h
  | _ :: _, [], _, _, _, _, h, _ => by simp at h
  | p :: P, w :: vs, 0, m, nd, h1, h2, hk => by
    simp at h1 h2; subst h1; subst h2
    show bindC kindOf ((p, w) :: P.zip vs) m p = _
    unfold bindC
    rw [bindC_out fun v hv => (List.nodup_cons.mp nd).1 (List.of_mem_zip hv).1, if_neg hk]
    simp
  | p :: P, w :: vs, i + 1, m, nd, h1, h2, hk => by
    show bindC kindOf ((p, w) :: P.zip vs) m x = _
    unfold bindC
    exact bindC_get (i := i) (List.nodup_cons.mp nd).2 (by simpa using h1) (by simpa using h2) hk
def start (N : List Str) (vs : List V) : St := vs.map some ++ List.replicate (N.length - vs.length) none
def cxOf (CX : CXT) (P : Program) (w : World) (K : PySem.W.Frag) (mg : Str → Option Value) (base : Heap) (N : List Str) (qual : Str) (scope : Scope) (f : Addr) (cd : Value) (A : Around) (outer : List Env) (s : Shared) (H : Hp) (E : XK) : Cx where
  prog := P
  w := w
  K := K
  mg := mg
  base := base
  A := A.deeper (envOfC qual scope s.heap.objs.size f cd)
  N := N
  s₀ := s
  H₀ := H
  env := envOfC qual scope s.heap.objs.size f cd
  outer := outer
  stack := envOfC qual scope s.heap.objs.size f cd :: outer
  ex := []
  calm := true
  fn := fun _ => true
  pn := []
  xe := fun e s' => wpAny (model P w) (A.deeper (envOfC qual scope s.heap.objs.size f cd)) (leaving (envOfC qual scope s.heap.objs.size f cd) e) (fun _ s'' => CX outer H s E e s'') (fun e' s'' => CX outer H s E e' s'') s'
theorem cell_has {sc : Scope} {n : Nat} {x : Str} (h : sc.names.lookup x = some .cell) : ∃ c, (cellsFrom n sc.names []).lookup x = some c := by
  have q := PySem.W.cellsFrom_some sc.names n [] (.inl h)
  exact Option.isSome_iff_exists.mp q
theorem inv_start {CX : CXT} {P : Program} {w : World} {K : PySem.W.Frag} {mg : Str → Option Value} {base : Heap} {N ps : List Str} {qual : Str} {scope : Scope} {f : Addr} {cd : Value} {A : Around} {outer : List Env} {s s1 : Shared} {H : Hp} {E : XK} {us : List Value} {vs : List V}
    (S : FnScope N ps scope) (hd : A.handled = none) (e0 : Env0 P w K mg base A outer s H) (hl : vs.length = ps.length) (r : Vals vs us)
    (x : InCallC s s.heap.objs.size (bindL (envOfC qual scope s.heap.objs.size f cd).kindOf (ps.zip us) fun _ => none) (cellsFrom (s.heap.objs.size + 1) scope.names []) (bindC (envOfC qual scope s.heap.objs.size f cd).kindOf (ps.zip us) fun _ => none) s1) :
    Inv (cxOf CX P w K mg base N qual scope f cd A outer s H E) [] (start N vs) H s1 := by
  have hpl : ps.length ≤ N.length := by have := congrArg List.length S.pre; rw [List.length_take] at this; omega
  obtain ⟨h1, tk, rfl, hk⟩ := x.done
  have noA : ∀ b : Addr, b ∉ (cxOf CX P w K mg base N qual scope f cd A outer s H E).ex := fun b z => absurd (show b ∈ ([] : List Addr) from z) (by simp)
  refine ⟨⟨e0.mod, S.kind, rfl, rfl, Nat.le_refl _, fun y z c h1 h2 => ?_, fun y hy => ?_, fun y c _ h => ?_, fun _ => hd, Around.frames_deeper e0.frames, .inr ⟨rfl, rfl⟩, fun b z => absurd z (noA b), e0.bs, e0.bsz, fun b _ _ => noA b, fun b z => absurd z (noA b), e0.funs, e0.frf⟩,
    rfl, e0.bare, Un.kept hk, ⟨_, x.toInCall.ns, fun i y v h1 h2 h3 => ?_⟩, fun y c h => ⟨_, x.cell y c h⟩, e0.hok.fresh (Nat.le_refl _), fun y c h => ?_, fun p hp => absurd (show p ∈ ([] : List (Addr × Obj)) from hp) (by simp), e0.hok.kept hk, ?_⟩
  · exact name_of_addr x.apart (PySem.mem_of_lookup h1) (PySem.mem_of_lookup h2)
  · have hy : scope.names.lookup y = some .cell ∨ scope.names.lookup y = some .free := hy
    rcases hy with hy | hy
    · exact cell_has hy
    · exact absurd rfl (S.nofree _ (PySem.mem_of_lookup hy))
  · exact Nat.le_of_lt (x.above y c (PySem.mem_of_lookup h))
  · have hi : i < vs.length := by
      unfold start at h2
      by_cases hi : i < vs.length
      · exact hi
      · rw [List.getElem?_append_right (by simpa using hi)] at h2
        rw [List.getElem?_replicate] at h2
        split at h2 <;> cases h2
    have ha : vs[i]? = some v := by
      unfold start at h2
      rw [List.getElem?_append_left (by simpa using hi), List.getElem?_map] at h2
      cases e : vs[i]? with
      | none => rw [e] at h2; cases h2
      | some a => rw [e] at h2; cases h2; rfl
    obtain ⟨u, hu, rv⟩ := r.get ha
    have hp : ps[i]? = some y := by
      rw [← S.pre, List.getElem?_take_of_lt (by omega)]; exact h1
    have ndP : ps.Nodup := by rw [← S.pre]; exact S.nd.sublist (List.take_sublist _ _)
    refine ⟨u, rv, ?_⟩
    rcases S.par y (List.mem_of_getElem? hp) with k | k
    · exact .inl ⟨k, bindL_get ndP hp hu k⟩
    · obtain ⟨c, e⟩ := cell_has (n := s.heap.objs.size + 1) k
      refine .inr ⟨.inl k, c, e, ?_⟩
      have q := x.cell y c e
      rw [bindC_get ndP hp hu (by show scope.names.lookup y ≠ _; rw [k]; decide)] at q
      exact q
  · exact e0.hok.fresh (Nat.le_of_lt (x.above y c (PySem.mem_of_lookup h)))
  · unfold start
    show _ = N.length
    rw [List.length_append, List.length_map, List.length_replicate]
    omega
theorem fn_of {CX : CXT} {P : Program} {w : World} {K : PySem.W.Frag} {mg : Str → Option Value} {base : Heap} {k : Nat} {f : Addr} {name qual : Str} {params : Arguments} {body : List Stmt} {scope : Scope} {dV kV doc pm cdv ct oc : Value} {an od : Option Addr}
    {osl : Array (Option Value)} {N ps : List Str} {sp : Sp} (lk : K.lookup f = some ⟨oc, od, .func (PySem.W.fnOf name qual params body scope dV kV doc pm an cdv ct), osl⟩) (hcd : PySem.W.codeIn K cdv qual = true) (S : FnScope N ps scope)
    (len : ∀ vs H Q E, sp vs H Q E → vs.length = ps.length)
    (hbody : ∀ (A : Around) (outer : List Env) (s : Shared) (H : Hp) (vs : List V) (Q : VK) (E : XK), Room k (A.deeper (envOfC qual scope s.heap.objs.size f cdv)) → sp vs H Q E →
      ∃ t, PSs (cxOf CX P w K mg base N qual scope f cdv A outer s H E) body t ∧ t { nx := fun _ H' => Q .non H', rt := Q } (start N vs) H) :
    FnOk P w K mg base CX (k + 1) f (PySem.W.fnOf name qual params body scope dV kV doc pm an cdv ct) ps sp := by
  refine ⟨len, fun A outer s H args us vs Q E hr e0 hb r hsp => ?_⟩
  have hl := len _ _ _ _ hsp
  have KX : K.In s.heap := e0.mod.kin.keeps fun b o e => (e0.bs b o e).1
  have lim : s.heap.NoLimit := e0.mod.nolimit.keeps fun b o e => (e0.bs b o e).1
  have hkind : ∀ y ∈ ps.zip us, scope.names.lookup y.1 = some .local ∨ (scope.names.lookup y.1 = some .cell ∧ ((cellsFrom (s.heap.objs.size + 1) scope.names []).lookup y.1).isSome = true) := fun ⟨n, v⟩ hy => by
    rcases S.par n (List.of_mem_zip hy).1 with q | q
    · exact .inl q
    · exact .inr ⟨q, PySem.W.cellsFrom_some _ _ _ (.inl q)⟩
  refine codeAny_call_function hr.depth (KX _ _ lk) rfl S.co S.gen rfl (PySem.W.codeRec_of KX hcd) (hb _ _ _ _ ?_)
  refine wpAny_newFunctionEnv_cells S.kind hkind fun env he s1 x => ?_
  subst he
  refine ⟨lim.keeps x.toInCall.keep, codeAny_func ?_⟩
  obtain ⟨t, ht, hq⟩ := hbody A outer s H vs Q E (hr.deeper _) hsp
  have I : Inv (cxOf CX P w K mg base N qual scope f cdv A outer s H E) [] (start N vs) H s1 := inv_start S hr.hd e0 hl r x
  refine wpAny_mono (ht [] s1 (start N vs) H _ I hq) (fun fl s' hs => ?_) fun e s' hs => hs
  have fin : ∀ {σ' : St} {H' : Hp} {v : V} {u : Value}, Inv (cxOf CX P w K mg base N qual scope f cdv A outer s H E) [] σ' H' s' → RelV v u → Q v H' → CE outer P w H s Q u s' :=
    fun {σ' H' v u} J rv q => ⟨v, H', J.os, J.bare, J.base, J.hok, rv, q⟩
  cases fl with
  | ret u =>
    obtain ⟨v, σ', H', J, rv, q⟩ := hs
    exact fin J rv q
  | next =>
    obtain ⟨σ', H', J, q⟩ := hs
    exact fin (v := V.non) (u := Value.none) J rfl q
  | brk =>
    obtain ⟨_, _, _, q⟩ := hs
    exact False.elim q
  | cont =>
    obtain ⟨_, _, _, q⟩ := hs
    exact False.elim q
end L2
namespace L2
open PySem PySem.Spec PyProof.Rows
section
variable {X : Cx} {x : Str} {p pos : Pos} {e : Expr} {es : List Expr} {t : TA} {id T : String} {r : List V → Hp → VK → Prop}
def tCB (r : List V → Hp → VK → Prop) (t : TA) : TE := fun σ H Q => t σ H fun vs H1 => r vs H1 Q
theorem pe_callB (hc : CallR X (.builtin id) r) (hg : Gl X x) (hm : X.mg x = none) (hv : bootBuiltins x = some (.builtin id)) (ha : PA X (e :: es) t) (hn : x ≠ "__name__" := by decide) (hdb : (x == ("__debug__" : Str)) = false := by decide)
    (he : starEach (e :: es) X.env = (false, eval e X.env) :: starEach es X.env := by rfl) (hpl : (backTo pos (starEach es X.env)).any (·.1) = false := by rfl) : PE X (.Call (.Name x p) (e :: es) [] pos) (tCB r t) := by
  intro pins s σ H Q I h
  refine wpAny_Call_Name_kw (ld_blt I hg hm hv ?_ hn hdb)
  exact PyProof.Rows.callWith_builtin1 (thn (ha pos pins s σ H _ I h) fun us s1 ⟨vs, H1, I1, r1, q1⟩ => hc pins s1 σ H1 vs us Q I1 r1 q1) he hpl
theorem pe_callTy (hc : CallR X (.type T) r) (hg : Gl X x) (hm : X.mg x = none) (hv : bootBuiltins x = some (.type T)) (ha : PA X (e :: es) t) (hn : x ≠ "__name__" := by decide) (hdb : (x == ("__debug__" : Str)) = false := by decide)
    (he : starEach (e :: es) X.env = (false, eval e X.env) :: starEach es X.env := by rfl) (hpl : (backTo pos (starEach es X.env)).any (·.1) = false := by rfl) : PE X (.Call (.Name x p) (e :: es) [] pos) (tCB r t) := by
  intro pins s σ H Q I h
  refine wpAny_Call_Name_kw (ld_blt I hg hm hv ?_ hn hdb)
  exact PyProof.Rows.callWith_type1 (thn (ha pos pins s σ H _ I h) fun us s1 ⟨vs, H1, I1, r1, q1⟩ => hc pins s1 σ H1 vs us Q I1 r1 q1) he hpl
end
end L2
namespace HT
open PySem PyProof.Rows
section
open PySem.SeqAt
open PySem.AutoSeq1 (wpAny_loadPart')
open PySem.MeetsSeq PySem.MeetsSeq2 PySem.MeetsSeq3
end
section
variable {prog : Program} {w : World} {A : Around} {E : Value → Shared → Prop} {s : Shared}
def sIx (n d : Nat) : Option Int → Nat
  | none => d
  | some v => if v < 0 then (v + (n : Int)).toNat else min v.toNat n
end
end HT
namespace L2
open PySem PySem.Spec PyProof.Rows
abbrev TO := St → Hp → (Option Int → Hp → Prop) → Prop
def tNoPart : TO := fun _ H Q => Q none H
def tPart (t : TE) : TO := fun σ H Q => t σ H fun x H1 => ∃ i, x = .int i ∧ Q (some i) H1
section
variable {X : Cx} {e : Expr} {te : TE} {lo hi : Option Expr} {tl th : TO} {pos p2 : Pos}
def tSl (r : V → Option Int → Option Int → Hp → VK → Prop) (te : TE) (tl th : TO) : TE := fun σ H Q => te σ H fun x H1 => tl σ H1 fun l H2 => th σ H2 fun u H3 => r x l u H3 Q
def cutV (xs : List V) (lo hi : Option Int) : List V := (xs.drop (HT.sIx xs.length 0 lo)).take (HT.sIx xs.length xs.length hi - HT.sIx xs.length 0 lo)
end
end L2
namespace L2
open PySem PySem.Spec PyProof.Rows
def ixN (n : Nat) (i : Int) : Option Nat := if 0 ≤ i then (if i < n then some i.toNat else none) else if -(n : Int) ≤ i then some (i + n).toNat else none
def atI {α : Type} (xs : List α) (i : Int) : Option α := (ixN xs.length i).bind fun j => xs[j]?
theorem ixN_seq {n : Nat} {i : Int} {j : Nat} (h : ixN n i = some j) : seqIndex? i n = some j ∧ j < n ∧ -(n : Int) ≤ i ∧ i < n := by
  unfold ixN at h
  by_cases h0 : 0 ≤ i
  · rw [if_pos h0] at h
    by_cases h1 : i < n
    · rw [if_pos h1] at h
      have e : i.toNat = j := Option.some.inj h
      exact ⟨by rw [seqIndex_of h0 h1, e], by omega, by omega, h1⟩
    · rw [if_neg h1] at h; cases h
  · rw [if_neg h0] at h
    by_cases h1 : -(n : Int) ≤ i
    · rw [if_pos h1] at h
      have e : (i + n).toNat = j := Option.some.inj h
      exact ⟨by rw [seqIndex_neg (by omega) h1, e], by omega, h1, by omega⟩
    · rw [if_neg h1] at h; cases h
theorem atI_get {α : Type} {xs : List α} {i : Int} {v : α} (h : atI xs i = some v) : ∃ j, seqIndex? i xs.length = some j ∧ xs[j]? = some v ∧ j < xs.length ∧ -(xs.length : Int) ≤ i ∧ i < xs.length := by
  unfold atI at h
  cases e : ixN xs.length i with
  | none => rw [e] at h; cases h
  | some j =>
    rw [e] at h
    obtain ⟨h1, h2, h3, h4⟩ := ixN_seq e
    exact ⟨j, h1, h, h2, h3, h4⟩
theorem atI_nat {α : Type} {xs : List α} {j : Nat} {v : α} (h : xs[j]? = some v) : atI xs (j : Int) = some v := by
  have hj : j < xs.length := (List.getElem?_eq_some_iff.mp h).1
  have e : ixN xs.length (j : Int) = some j := by
    unfold ixN
    rw [if_pos (by omega), if_pos (by omega)]; simp
  unfold atI; rw [e]; exact h
def PlainIx (b : Expr) : Prop := ∀ o i, subscripted b false o i = operate [o, i] (getItem o i)
def IxR (X : Cx) (r : R2) : Prop :=
  ∀ (value slice : Expr) (pins : List (Addr × Obj)) (s : Shared) (σ : St) (H : Hp) (x y : V) (v u : Value) (Q : VK), Inv X pins σ H s → RelV x v → RelV y u → r x y H Q →
    subscripted slice false v u = operate [v, u] (getItem v u) → wpAny (model X.prog X.w) X.A (subscriptTail value slice v u) (EP X pins σ Q) X.xe s
def MtR (X : Cx) (id : String) (r : V → List V → Hp → VK → Prop) : Prop :=
  ∀ (pins : List (Addr × Obj)) (s : Shared) (σ : St) (H : Hp) (x : V) (xs : List V) (v : Value) (us : List Value) (Q : VK), Inv X pins σ H s → RelV x v → Vals xs us → r x xs H Q →
    wpAny (model X.prog X.w) X.A (call (.builtin id) (v :: us)) (EP X pins σ Q) X.xe s
section
variable {X : Cx} {a b : Expr} {ta tb : TE} {pos : Pos}
theorem pe_ix {r : R2} (hr : IxR X r) (ha : PE X a ta) (hb : PE X b tb) (hs : PlainIx b) : PE X (.Subscript a b pos) (tOp r ta tb) := by
  intro pins s σ H Q I h
  exact Subscript_ (binT ha hb I h fun v u s2 x y H2 I2 rx ry q => hr a b pins s2 σ H2 x y v u Q I2 rx ry q (hs _ _))
def rIxL (K : PySem.W.Frag) : R2 := fun x y H Q => ∃ p xs i v, x = .ref p ∧ y = .int i ∧ SqL K H p xs ∧ atI xs i = some v ∧ Q v H
def rIxT (K : PySem.W.Frag) : R2 := fun x y H Q => ∃ p xs i v, x = .ref p ∧ y = .int i ∧ SqT K H p xs ∧ atI xs i = some v ∧ Q v H
theorem ix_list : IxR X (rIxL X.K) := by
  intro value slice pins s σ H x y v u Q I rx ry h hs
  obtain ⟨p, xs, i, z, rfl, rfl, hq, he, q⟩ := h
  cases rx
  obtain ⟨t, rfl⟩ := ry
  obtain ⟨its, r, pl, hz⟩ := I.list hq
  obtain ⟨j, h1, h2, h3, h4, h5⟩ := atI_get he
  obtain ⟨w, ew, rw'⟩ := r.get h2
  have hl := r.length
  have hn := line63
  have fin : EP X pins σ Q w s := ⟨z, H, I, rw', q⟩
  by_cases h0 : 0 ≤ i
  · have hj : i.toNat = j := by
      rw [seqIndex_of h0 h5] at h1
      exact Option.some.inj h1
    exact item_listR pl.isList h0 (by omega) (by rw [hj]; simpa using ew) fin hs
  · have hj : (i + (its.toArray.size : Int)).toNat = j := by
      rw [seqIndex_neg (by omega) h4] at h1
      rw [List.size_toArray, ← hl]
      exact Option.some.inj h1
    exact subscriptTail_builtinR (x := w) pl.isList.typeIs slot_list_getitem.lookup
      (wpAny_getItem_list_neg (Q := fun r s' => r = w ∧ EP X pins σ Q r s') pl.isList (by omega) (by rw [List.size_toArray] <;> omega) (by omega) (by rw [hj]; simpa using ew) ⟨rfl, fin⟩) hs
theorem ix_tup : IxR X (rIxT X.K) := by
  intro value slice pins s σ H x y v u Q I rx ry h hs
  obtain ⟨p, xs, i, z, rfl, rfl, hq, he, q⟩ := h
  cases rx
  obtain ⟨t, rfl⟩ := ry
  obtain ⟨its, r, pl, hz⟩ := I.tuple hq
  obtain ⟨j, h1, h2, h3, h4, h5⟩ := atI_get he
  obtain ⟨w, ew, rw'⟩ := r.get h2
  have hl := r.length
  have hn := line63
  have fin : EP X pins σ Q w s := ⟨z, H, I, rw', q⟩
  exact subscriptTail_builtinR (x := w) pl.typeIs slot_tuple_getitem.lookup
    (getItem_tuple (j := j) (Q := fun r s' => r = w ∧ EP X pins σ Q r s') pl (by omega) (by omega) (by rw [List.size_toArray, ← hl]; exact h1) (by simpa using ew) ⟨rfl, fin⟩) hs
theorem mapSeq_set (its : List Value) (n j : Nat) (u : Value) : Obj.mapSeq (·.setIfInBounds j u) { cls := .type "list", data := .seq its.toArray n } = { cls := .type "list", data := .seq (its.set j u).toArray n } := by
  simp [Obj.mapSeq]
theorem Inv.lst {pins : List (Addr × Obj)} {σ : St} {H : Hp} {s : Shared} {p : Addr} {xs : List V} (I : Inv X pins σ H s) (h : H p = some (.lst xs)) :
    ∃ (its : List Value) (n : Nat), Vals xs its ∧ s.heap.get? p = some { cls := .type "list", data := .seq its.toArray n } ∧ xs.length ≤ sizeLine := by
  obtain ⟨z, its, n, r, e⟩ := I.hok p _ h
  exact ⟨its, n, r, e, z⟩
theorem Inv.lstUpd {pins : List (Addr × Obj)} {σ : St} {H : Hp} {s : Shared} {p : Addr} {xs ys : List V} {its its' : List Value} {n n' : Nat} {f : Obj → Obj} (I : Inv X pins σ H s) (h : H p = some (.lst xs))
    (ho : s.heap.get? p = some { cls := .type "list", data := .seq its.toArray n }) (hf : f { cls := .type "list", data := .seq its.toArray n } = { cls := .type "list", data := .seq its'.toArray n' }) (r : Vals ys its') (hz : ys.length ≤ sizeLine) (t : Nat) :
    Inv X pins σ (upd H p (.lst ys)) { s with heap := s.heap.update p f, toks := t } := by
  have e : (s.heap.update p f).get? p = some { cls := .type "list", data := .seq its'.toArray n' } := by
    rw [Heap.get?_update_self f ho (by rw [hf] <;> rfl), hf]
  refine I.write (x := p) (e := p) (by rw [h]; trivial) (.inl rfl) (fun b u hb q => (Heap.get?_update_other _ _ (Ne.symm hb)).trans q) ⟨_, e⟩ ?_
  exact ⟨hz, its', n', r, e⟩
def rSetL : V → V → V → Hp → (Hp → Prop) → Prop := fun o i v H Q => ∃ p xs k j, o = .ref p ∧ i = .int k ∧ H p = some (.lst xs) ∧ ixN xs.length k = some j ∧ Q (upd H p (.lst (xs.set j v)))
theorem set_list : PSet X rSetL := by
  intro pins s σ H o i v ov iv u Q I ro ri rv h
  obtain ⟨p, xs, k, j, rfl, rfl, hp, hj, q⟩ := h
  cases ro
  obtain ⟨t, rfl⟩ := ri
  obtain ⟨its, n, r, ho, hz⟩ := I.lst hp
  obtain ⟨h1, h2, h3, h4⟩ := ixN_seq hj
  have hl := r.length
  have hn := line63
  have I' : Inv X pins σ (upd H p (.lst (xs.set j v))) { s with heap := s.heap.update p (Obj.mapSeq (·.setIfInBounds j u)) } :=
    I.lstUpd hp ho (mapSeq_set its n j u) (r.set rv j) (by rw [List.length_set]; exact hz) s.toks
  by_cases h0 : 0 ≤ k
  · have hk : k.toNat = j := by
      rw [seqIndex_of h0 h4] at h1
      exact Option.some.inj h1
    exact PySem.W.ki_setAt ho h0 (by omega) (by rw [List.size_toArray, ← hl]; exact h4) (by rw [hk]; exact ⟨_, I', q⟩)
  · have hk : (k + (its.toArray.size : Int)).toNat = j := by
      rw [seqIndex_neg (by omega) h3] at h1
      rw [List.size_toArray, ← hl]
      exact Option.some.inj h1
    exact PySem.W.ki_setBack ho (by omega) (by rw [List.size_toArray, ← hl]; exact h3) (by omega) (by rw [hk]; exact ⟨_, I', q⟩)
def rSlL (K : PySem.W.Frag) : V → Option Int → Option Int → Hp → VK → Prop := fun x lo hi H Q => ∃ a xs, x = .ref a ∧ SqL K H a xs ∧ ∀ p, H p = none → Q (.ref p) (upd H p (.lst (cutV xs lo hi)))
def flatV : V → Bool
  | .non => true
  | .bl _ => true
  | .int _ => true
  | .str _ => true
  | _ => false
def eqV : V → V → Bool
  | .non, .non => true
  | .bl a, .bl b => a == b
  | .bl a, .int b => (if a then 1 else 0) == b
  | .int a, .bl b => a == (if b then 1 else 0)
  | .int a, .int b => a == b
  | .str a, .str b => a == b
  | _, _ => false
theorem eqAt_V {A : Around} {s : Shared} {y x : V} {u v : Value} (ry : RelV y u) (rx : RelV x v) (fy : flatV y = true) (fx : flatV x = true) : SeqAt.EqAt A s u v (eqV y x) := by
  cases y with
  | non =>
    cases ry
    cases x with
    | non => cases rx; exact SeqAt.EqAt.same _
    | bl b => cases rx; exact SeqAt.EqAt.none_bool b
    | int b => obtain ⟨t, rfl⟩ := rx; exact SeqAt.EqAt.none_int b t
    | str b => obtain ⟨t, rfl⟩ := rx; exact SeqAt.EqAt.none_str b t
    | _ => exact absurd (show false = true from fx) Bool.false_ne_true
  | bl a =>
    cases ry
    cases x with
    | non => cases rx; exact SeqAt.EqAt.bool_none a
    | bl b => cases rx; exact SeqAt.EqAt.bool_bool a b
    | int b => obtain ⟨t, rfl⟩ := rx; exact SeqAt.EqAt.bool_int a b t
    | str b => obtain ⟨t, rfl⟩ := rx; exact SeqAt.EqAt.bool_str a b t
    | _ => exact absurd (show false = true from fx) Bool.false_ne_true
  | int a =>
    obtain ⟨t', rfl⟩ := ry
    cases x with
    | non => cases rx; exact SeqAt.EqAt.int_none a t'
    | bl b => cases rx; exact SeqAt.EqAt.int_bool a t' b
    | int b => obtain ⟨t, rfl⟩ := rx; exact SeqAt.EqAt.int_int a t' b t
    | str b => obtain ⟨t, rfl⟩ := rx; exact SeqAt.EqAt.int_str a t' b t
    | _ => exact absurd (show false = true from fx) Bool.false_ne_true
  | str a =>
    obtain ⟨t', rfl⟩ := ry
    cases x with
    | non => cases rx; exact SeqAt.EqAt.str_none a t'
    | bl b => cases rx; exact SeqAt.EqAt.str_bool a t' b
    | int b => obtain ⟨t, rfl⟩ := rx; exact SeqAt.EqAt.str_int a t' b t
    | str b => obtain ⟨t, rfl⟩ := rx; exact SeqAt.EqAt.str_str a t' b t
    | _ => exact absurd (show false = true from fx) Bool.false_ne_true
  | _ => exact absurd (show false = true from fy) Bool.false_ne_true
theorem call_len_seq : CallR X (.builtin "len") (fun xs H Q => ∃ p ys, xs = [.ref p] ∧ (SqL X.K H p ys ∨ SqT X.K H p ys) ∧ Q (.int ys.length) H) := by
  intro pins s σ H xs us Q I r h
  obtain ⟨p, ys, rfl, hq, q⟩ := h
  obtain ⟨u, rfl, rx⟩ := vals1 r
  cases rx
  have hn := line63
  rcases hq with hq | hq
  · obtain ⟨its, r', pl, hz⟩ := I.list hq
    have hlen := r'.length
    exact Calls.call_len_list pl.isList (by simp only [List.size_toArray] <;> omega) ⟨.int ys.length, H, I.tok _, ⟨s.toks + 1, by rw [List.size_toArray, hlen]⟩, q⟩
  · obtain ⟨its, r', pl, hz⟩ := I.tuple hq
    have hlen := r'.length
    exact len_tuple pl (by simp only [List.size_toArray] <;> omega) ⟨.int ys.length, H, I.tok _, ⟨s.toks + 1, by rw [List.size_toArray, hlen]⟩, q⟩
theorem call_list_of : CallR X (.type "list") (fun xs H Q => ∃ p ys, xs = [.ref p] ∧ (SqL X.K H p ys ∨ SqT X.K H p ys) ∧ ∀ l, H l = none → Q (.ref l) (upd H l (.lst ys))) := by
  intro pins s σ H xs us Q I r h
  obtain ⟨p, ys, rfl, hq, q⟩ := h
  obtain ⟨u, rfl, rx⟩ := vals1 r
  cases rx
  have fin : ∀ (its : List Value), Vals ys its → ys.length ≤ sizeLine → ∀ (h' : Heap) (c' : Nat), (∀ b o', s.heap.get? b = some o' → h'.get? b = some o') →
      h'.get? s.heap.objs.size = some { cls := .type "list", dict := none, data := .seq its.toArray c', slots := #[] } → EP X pins σ Q (.ref s.heap.objs.size) { s with heap := h' } := fun its r' hz h' c' kp e =>
    ⟨.ref s.heap.objs.size, _, I.laid (t' := s.toks) kp (Nat.le_refl _) (show ObjOk X.prog X.w _ h' _ (.lst ys) from ⟨hz, its, c', r', e⟩), rfl, q _ (I.hok.fresh (Nat.le_refl _))⟩
  rcases hq with hq | hq
  · obtain ⟨its, r', pl, hz⟩ := I.list hq
    have hlen := r'.length
    obtain ⟨o, ho, hc, n, hd⟩ := pl.isList
    exact call_list_seq p (.inl rfl) ho hc hd (fun h' c' kp e => fin its r' hz h' c' kp e) (by simp only [List.size_toArray] <;> omega)
  · obtain ⟨its, r', pl, hz⟩ := I.tuple hq
    have hlen := r'.length
    obtain ⟨o, ho, hc, n, hd⟩ := pl
    exact call_list_seq p (.inr rfl) ho hc hd (fun h' c' kp e => fin its r' hz h' c' kp e) (by simp only [List.size_toArray] <;> omega)
def tyV (K : PySem.W.Frag) (T : String) (x : V) (H : Hp) : Prop := match x with
  | .str _ => T = "str"
  | .int _ => T = "int"
  | .ref p => (T = "list" ∧ ∃ xs, SqL K H p xs) ∨ (T = "tuple" ∧ ∃ o, K.lookup p = some o ∧ o.cls = .type "tuple" ∧ o.dict = none) ∨
      (T = "dict" ∧ ((∃ kvs, H p = some (.dK kvs)) ∨ ∃ kvs, H p = some (.dT kvs))) ∨ (T = "set" ∧ ∃ S n, H p = some (.set S n))
  | _ => False
theorem tyV_is {pins : List (Addr × Obj)} {σ : St} {H : Hp} {s : Shared} {T : String} {x : V} {v : Value} (I : Inv X pins σ H s) (r : RelV x v) (ty : tyV X.K T x H) :
    s.TypeIs v T ∧ ∀ a, v = .ref a → ∃ ob, s.heap.get? a = some ob ∧ ob.dict = none := by
  cases x with
  | str z =>
    obtain ⟨t, rfl⟩ := r
    cases (show T = "str" from ty)
    exact ⟨typeIs_str s z t, fun _ e => nomatch e⟩
  | int i =>
    obtain ⟨t, rfl⟩ := r
    cases (show T = "int" from ty)
    exact ⟨typeIs_int s i t, fun _ e => nomatch e⟩
  | ref p =>
    cases r
    rcases ty with ⟨rfl, xs, hq⟩ | ⟨rfl, o, hk, hc, hd⟩ | ⟨rfl, hk⟩ | ⟨rfl, S, n, hk⟩
    · obtain ⟨its, _, pl, _⟩ := I.list hq
      refine ⟨pl.isList.typeIs, fun a e => ?_⟩
      cases e
      obtain ⟨o, n, e, c, hd, _⟩ := pl
      exact ⟨o, e, hd⟩
    · refine ⟨⟨o, I.kIn p o hk, hc⟩, fun a e => ?_⟩
      cases e
      exact ⟨o, I.kIn _ o hk, hd⟩
    · have z : ∃ o, s.heap.get? p = some o ∧ o.ExactDict := by
        rcases hk with ⟨kvs, hk⟩ | ⟨kvs, hk⟩
        · obtain ⟨_, _, _, _, o, _, _, e, ex, _⟩ := I.hok p _ hk
          exact ⟨o, e, ex⟩
        · obtain ⟨_, _, _, _, o, _, _, e, ex, _⟩ := I.hok p _ hk
          exact ⟨o, e, ex⟩
      obtain ⟨o, e, ex⟩ := z
      refine ⟨⟨o, e, ex.1⟩, fun a e2 => ?_⟩
      cases e2
      exact ⟨o, e, ex.2.1⟩
    · obtain ⟨o, _, _, _, e, ex, _⟩ := I.hok p _ hk
      refine ⟨⟨o, e, ex.1⟩, fun a e2 => ?_⟩
      cases e2
      exact ⟨o, e, ex.2.1⟩
  | _ => exact False.elim ty
def tBM0 (K : PySem.W.Frag) (T : String) (r : V → List V → Hp → VK → Prop) (to : TE) : TE := fun σ H Q => to σ H fun x H1 => tyV K T x H1 ∧ r x [] H1 Q
def tBM (K : PySem.W.Frag) (T : String) (r : V → List V → Hp → VK → Prop) (to : TE) (t : TA) : TE := fun σ H Q => to σ H fun x H1 => tyV K T x H1 ∧ t σ H1 fun xs H2 => r x xs H2 Q
variable {o e : Expr} {es : List Expr} {to : TE} {t : TA} {name : Str} {apos cpos : Pos} {T id : String} {r : V → List V → Hp → VK → Prop}
theorem pe_bm (pa : PlainAttrs T) (slot : Slot T name id) (hty : typeOf (.builtin id) = pure (.type "method_descriptor")) (hm : MtR X id r) (ho : PE X o to) (ha : PA X (e :: es) t)
    (hbase : attributeBase o name X.env (eval o X.env) = eval o X.env := by rfl)
    (hfew : ((backTo cpos (starEach (e :: es) X.env)).all (fun x => !x.1) && (backToKw cpos (keywordEach [] X.env)).all (fun x => x.1.isSome)
      && decide ((e :: es).length + ([] : List Keyword).length + (if ([] : List Keyword).isEmpty then 0 else 1) < 30)) = true := by rfl)
    (hline : (apos.endLine == cpos.line) = true := by rfl) (hs : starEach (e :: es) X.env = (false, eval e X.env) :: starEach es X.env := by rfl) (hplain : (backTo cpos (starEach es X.env)).any (·.1) = false := by rfl) :
    PE X (.Call (.Attribute o name apos) (e :: es) [] cpos) (tBM X.K T r to t) := by
  intro pins s σ H Q I h
  refine wpAny_Call_method_late hbase hfew hline rfl (thn (ho pins s σ H _ I h) fun v s1 ⟨x, H1, I1, r1, ty, q1⟩ => ?_)
  obtain ⟨h1, h2⟩ := tyV_is I1 r1 ty
  refine ⟨T, id, pa, slot, hty, h1, h2, ?_⟩
  have hA := ha cpos pins s1 σ H1 _ I1 q1
  rw [hs] at hA ⊢
  refine Calls.callWith_builtin (by show (false || (backTo cpos (starEach es X.env)).any (·.1)) = false; rw [hplain] <;> rfl) (Calls.evalArgs_plain ?_)
  exact thn hA fun us s2 ⟨vs, H2, I2, r2, q2⟩ => hm pins s2 σ H2 x vs v us Q I2 r1 r2 q2
end
end L2
namespace L2
open PySem PySem.Spec PyProof.Rows
def MtM (X : Cx) (id : String) (r : V → List V → Hp → VK → Prop) : Prop :=
  ∀ (pins : List (Addr × Obj)) (s : Shared) (σ : St) (H : Hp) (x : V) (xs : List V) (v : Value) (us : List Value) (Q : VK), Inv X pins σ H s → RelV x v → Vals xs us → r x xs H Q →
    wpAny (model X.prog X.w) X.A (call (.builtin id) (v :: us)) (EP X pins σ Q) X.xe s
theorem Vals.one : ∀ {x : V} {us : List Value}, Vals [x] us → ∃ u, us = [u] ∧ RelV x u
  | _, _, .cons r .nil => ⟨_, rfl, r⟩
theorem Vals.two : ∀ {x y : V} {us : List Value}, Vals [x, y] us → ∃ u v, us = [u, v] ∧ RelV x u ∧ RelV y v
  | _, _, _, .cons r (.cons q .nil) => ⟨_, _, rfl, r, q⟩
section
variable {X : Cx} {pins : List (Addr × Obj)} {σ : St} {H : Hp} {s : Shared} {l b : Addr} {xs ys zs : List V}
theorem Inv.lset {its its' : List Value} {n : Nat} {f : Array Value → Array Value} {t' : Nat} (I : Inv X pins σ H s) (hH : H l = some (.lst xs))
    (e : s.heap.get? l = some { cls := .type "list", data := .seq its.toArray n }) (hf : f its.toArray = its'.toArray) (hv : Vals ys its') (hz : ys.length ≤ sizeLine) :
    Inv X pins σ (upd H l (.lst ys)) { s with heap := s.heap.update l (Obj.mapSeq f), toks := t' } := by
  have q := PySem.IsL.update e f
  rw [hf] at q
  refine I.write (x := l) (e := l) (by rw [hH]; exact trivial) (.inl rfl) (fun b' u hb hu => (Heap.get?_update_other s.heap (Obj.mapSeq f) (Ne.symm hb)).trans hu) ⟨_, q⟩ ?_
  exact ⟨hz, its', _, hv, q⟩
theorem Inv.lnew {its : List Value} {t' : Nat} (I : Inv X pins σ H s) (hv : Vals ys its) (hz : ys.length ≤ sizeLine) :
    Inv X pins σ (upd H s.heap.objs.size (.lst ys)) { s with heap := s.heap.push { cls := .type "list", data := .seq its.toArray }, toks := t' } :=
  I.laid (fun _ _ q => Heap.get?_push_of_some _ q) (Nat.le_refl _) ⟨hz, its, 0, hv, Heap.get?_push_size _ rfl⟩
theorem Inv.fresh (I : Inv X pins σ H s) : H s.heap.objs.size = none := I.hok.fresh (Nat.le_refl _)
theorem Inv.lstM (I : Inv X pins σ H s) (hH : H l = some (.lst xs)) : xs.length ≤ sizeLine ∧ ∃ (its : List Value) (n : Nat), Vals xs its ∧ xs.length = its.length ∧ s.heap.get? l = some { cls := .type "list", data := .seq its.toArray n } := by
  obtain ⟨z, its, n, r, e⟩ := I.hok l _ hH
  exact ⟨z, its, n, r, r.length, e⟩
end
section
variable {X : Cx}
def rAppend : V → List V → Hp → VK → Prop := fun x vs H Q => ∃ l xs y, x = .ref l ∧ vs = [y] ∧ H l = some (.lst xs) ∧ xs.length < sizeLine ∧ Q .non (upd H l (.lst (xs ++ [y])))
theorem mt_append : MtM X "list.append" rAppend := by
  intro pins s σ H x vs v us Q I rx rv h
  obtain ⟨l, xs, y, rfl, rfl, hH, hz, q⟩ := h
  cases rx
  obtain ⟨u, rfl, ru⟩ := rv.one
  obtain ⟨z, its, n, r, hl, e⟩ := I.lstM hH
  refine call_meets F.slot_list_append ⟨_, e, rfl⟩ F.entry_list_append (F.args_list_append_2 _ _) (PySem.list_append l its.toArray n u (by rw [List.size_toArray]; omega)) ⟨e, ?_⟩
  refine ⟨.non, _, I.lset (its' := its ++ [u]) hH e (by simp) (r.append (.cons ru .nil)) ?_, rfl, q⟩
  rw [List.length_append, List.length_singleton]
  omega
def rExtend : V → List V → Hp → VK → Prop := fun x vs H Q => ∃ l b xs zs, x = .ref l ∧ vs = [.ref b] ∧ H l = some (.lst xs) ∧ H b = some (.lst zs) ∧ xs.length + zs.length ≤ sizeLine ∧ Q .non (upd H l (.lst (xs ++ zs)))
def rPop : V → List V → Hp → VK → Prop := fun x vs H Q => ∃ l xs y, x = .ref l ∧ vs = [] ∧ H l = some (.lst xs) ∧ xs[xs.length - 1]? = some y ∧ Q y (upd H l (.lst xs.dropLast))
def rReverse : V → List V → Hp → VK → Prop := fun x vs H Q => ∃ l xs, x = .ref l ∧ vs = [] ∧ H l = some (.lst xs) ∧ Q .non (upd H l (.lst xs.reverse))
def rClear : V → List V → Hp → VK → Prop := fun x vs H Q => ∃ l xs, x = .ref l ∧ vs = [] ∧ H l = some (.lst xs) ∧ Q .non (upd H l (.lst []))
def rCat : R2 := fun x y H Q => ∃ l b xs zs, x = .ref l ∧ y = .ref b ∧ H l = some (.lst xs) ∧ H b = some (.lst zs) ∧ xs.length + zs.length ≤ sizeLine ∧ ∀ p, H p = none → Q (.ref p) (upd H p (.lst (xs ++ zs)))
theorem op_cat : OpR X (binaryOp .Add) rCat := by
  intro pins s σ H x y v u Q I rx ry h
  obtain ⟨l, b, xs, zs, rfl, rfl, hH, hB, hz, q⟩ := h
  cases rx
  cases ry
  obtain ⟨z, its, n, r, hl, e⟩ := I.lstM hH
  obtain ⟨z2, its2, n2, r2, hl2, e2⟩ := I.lstM hB
  refine PySem.P.add_list e e2 ?_ (by rw [List.size_toArray, List.size_toArray]; omega)
  have ea : its.toArray ++ its2.toArray = (its ++ its2).toArray := by simp
  rw [ea]
  exact ⟨.ref _, _, I.lnew (t' := s.toks) (r.append r2) (by rw [List.length_append]; omega), rfl, q _ I.fresh⟩
end
section
variable {prog : Program} {w : World} {A : Around} {E : Value → Shared → Prop} {s : Shared}
end
section
variable {X : Cx}
end
end L2
namespace L2
open PySem PySem.Spec PyProof.Rows
section
variable {κ : Type} [DecidableEq κ]
def valV (kvs : List (κ × V)) (k : κ) : Option V := (kvs.find? fun kv => decide (kv.1 = k)).map (·.2)
def putK (kvs : List (κ × V)) (k : κ) (v : V) : List (κ × V) :=
  if (kvs.any fun kv => decide (kv.1 = k)) = true then kvs.map (fun kv => if kv.1 = k then (kv.1, v) else kv) else kvs ++ [(k, v)]
theorem valV_pos {p : κ × V} {r : List (κ × V)} {k : κ} (e : p.1 = k) : valV (p :: r) k = some p.2 := by simp [valV, List.find?_cons, e]
theorem valV_neg {p : κ × V} {r : List (κ × V)} {k : κ} (e : ¬ p.1 = k) : valV (p :: r) k = valV r k := by simp [valV, List.find?_cons, e]
theorem valV_any (k : κ) : ∀ kvs : List (κ × V), (kvs.any fun kv => decide (kv.1 = k)) = (valV kvs k).isSome
  | [] => rfl
  | p :: r => by
    rw [List.any_cons]
    by_cases e : p.1 = k
    · simp only [valV_pos e, decide_eq_true e, Bool.true_or, Option.isSome_some]
    · rw [valV_neg e, decide_eq_false e, Bool.false_or]; exact valV_any k r
end
section
variable {P : Program} {w : World} {H : Hp} {h : Heap} {a : Addr}
end
section
variable {X : Cx} {pins : List (Addr × Obj)} {σ : St} {H : Hp} {s : Shared} {a : Addr} {y v : V} {u r : Value} {o : Option V} {A : Around} {E : Value → Shared → Prop}
end
section
variable {X : Cx} {pins : List (Addr × Obj)} {σ : St} {H : Hp} {s : Shared} {a : Addr} {kvs : List (Key × V)} {k : Key} {u : Value} {A : Around} {E : Value → Shared → Prop}
end
section
variable {X : Cx} {o i e value : Expr} {pos pos' tpos : Pos} {td ty tv : TE}
end
def tDNewK : TE := fun _ H Q => ∀ p, H p = none → Q (.ref p) (upd H p (.dK []))
section
variable {X : Cx} {pos : Pos}
end
def tPairs : List (TE × TE) → St → Hp → (List (V × V) → Hp → Prop) → Prop
  | [], _, H, Q => Q [] H
  | (tk, tv) :: r, σ, H, Q => tk σ H fun x H1 => tv σ H1 fun y H2 => tPairs r σ H2 fun ps H3 => Q ((x, y) :: ps) H3
def mergeK (kvs more : List (Key × V)) : List (Key × V) := more.foldl (fun acc kv => putK acc kv.1 kv.2) kvs
def tDisp (trs : List (TE × TE)) : TE := fun σ H Q => ∀ p, H p = none → tPairs trs σ (upd H p (.dK [])) fun ps H2 => H2 p = some (.dK []) ∧ ∃ kvs : List (Key × V), ps = kvs.map (fun kv => (kV kv.1, kv.2)) ∧ kvs.length ≤ 15 ∧ Q (.ref p) (upd H2 p (.dK (mergeK [] kvs)))
structure M1 (X : Cx) (o : Expr) (m : Str) (apos : Pos) (e : Expr) (cpos : Pos) : Prop where
  base : attributeBase o m X.env (eval o X.env) = eval o X.env
  few : ((backTo cpos (starEach [e] X.env)).all (fun x => !x.1) && (backToKw cpos (keywordEach [] X.env)).all (fun x => x.1.isSome)
    && decide (([e] : List Expr).length + ([] : List Keyword).length + (if ([] : List Keyword).isEmpty then 0 else 1) < 30)) = true
  line : (apos.endLine == cpos.line) = true
  trees : backTo cpos (starEach [e] X.env) = [(false, eval e X.env)]
structure M2 (X : Cx) (o : Expr) (m : Str) (apos : Pos) (e f : Expr) (cpos : Pos) : Prop where
  base : attributeBase o m X.env (eval o X.env) = eval o X.env
  few : ((backTo cpos (starEach [e, f] X.env)).all (fun x => !x.1) && (backToKw cpos (keywordEach [] X.env)).all (fun x => x.1.isSome)
    && decide (([e, f] : List Expr).length + ([] : List Keyword).length + (if ([] : List Keyword).isEmpty then 0 else 1) < 30)) = true
  line : (apos.endLine == cpos.line) = true
  trees : backTo cpos (starEach [e, f] X.env) = [(false, eval e X.env), (false, eval f X.env)]
section
variable {X : Cx} {pins : List (Addr × Obj)} {σ : St} {H : Hp} {s : Shared} {a : Addr} {y d : V} {u r : Value} {o : Option V} {A : Around} {E : Value → Shared → Prop}
end
section
variable {X : Cx} {o e f : Expr} {apos cpos : Pos} {td ty tx : TE}
end
section
variable {X : Cx} {pins : List (Addr × Obj)} {σ : St} {H : Hp} {s : Shared} {a : Addr} {kvs : List (Key × V)} {A : Around} {E : Value → Shared → Prop}
end
section
variable {X : Cx} {pins : List (Addr × Obj)} {σ : St} {H : Hp} {s : Shared} {a : Addr} {y : V} {u : Value} {A : Around} {E : Value → Shared → Prop}
end
end L2
namespace Att
open PySem PySem.W PySem.Calls PyProof.Rows
theorem ints_of_wellAll {P : Params} {h : Heap} : ∀ (ns : List Int) (vs : List Value), WellAll P h vs (ns.map WData.int) → IntsAre vs ns := by
  intro ns
  induction ns with
  | nil =>
    intro vs w
    rw [List.map_nil] at w
    cases w
    exact .nil
  | cons n ns ih =>
    intro vs w
    rw [List.map_cons] at w
    cases w with
    | cons a b =>
      cases a
      exact .cons _ _ (ih _ b)
theorem script_of {l : OpenLaw} {n : Nat} (hn : l.most = some n) {P : Params} {h : Heap} {args : List WData} {vals : List Value}
    (hpre : l.row.toRowW.claim.pre args = true) (hwl : WellAll P h vals args) :
    ∃ a vs ns, vals = [Value.ref a] ∧ args = [WData.list (ns.map WData.int)] ∧ h.get? a = some { cls := .type "list", data := .seq vs.toArray } ∧ IntsAre vs ns ∧ ns.length ≤ n := by
  have hsh : WShape.hasAll [] args [.list .int] = true := (pre_splitW hpre).1
  have hc : l.pre.holds [] { args := args } = true := (pre_splitW hpre).2
  obtain ⟨d, r, rfl, h1, h2⟩ := hasAllW_cons hsh
  obtain rfl := hasAllW_nil h2
  obtain ⟨xs, rfl, h3⟩ := hasW_list h1
  obtain ⟨ns, rfl⟩ := items_int h3
  have hlen : ns.length ≤ n := by
    unfold OpenLaw.pre at hc
    have h4 : (WTm.not (.lt (.lit (.int (n : Int))) (.len (.arg 0)))).holds [] { args := [.list (ns.map .int)] } = true := by
      have h4 := (holds_andW hc).1
      rw [hn] at h4
      exact h4
    have h5 := condW_of h4 (w_not (w_lt w_lit (w_len_list (w_arg rfl))))
    rw [List.length_map] at h5
    refine Nat.le_of_not_lt fun q => ?_
    have q' : (n : Int) < ((ns.length : Nat) : Int) := by omega
    first
      | (rw [decide_eq_true q'] at h5; exact absurd h5 (by decide))
      | (simp at h5; omega)
  cases hwl with
  | cons w1 w2 =>
    cases w2
    cases w1 with
    | list ho hall => exact ⟨_, _, ns, rfl, rfl, ho, ints_of_wellAll ns _ hall, hlen⟩
theorem post_true (l : OpenLaw) (args : List WData) : l.row.toRowW.claim.post args (.bool true) args = true :=
  postW_of (r := l.row.toRowW) (X := (true == true))
    (show WShape.has [] (.bool true) .bool = true by first | rfl | decide | simp [WShape.has, WShape.arms, WShape.armsAll])
    (show (WTm.eq .res (.lit (.bool true))).value [] { args := args, res := some (.bool true), after := args } = some (.bool (true == true)) from w_eq_bool (w_res rfl) w_lit) rfl
theorem attach_call {l : OpenLaw} {n : Nat} {q : Program} {loose : List Str} {XP : (Str → Option Value) → Heap → Prop} {YP : World → Heap → Prop} {d : DefRec}
    (hn : l.most = some n) (hdf : d.params.defaults = [])
    (call : ∀ (w : World) (s₀ s₁ : Shared) (mg mb : Str → Option Value) (fa : Addr) (o : Obj) (pm cd doc : Value) (a : Addr) (vs : List Value) (ns : List Int),
      Ground q loose [] XP w s₀ mg mb s₁.heap → YP w s₁.heap →
      s₁.heap.get? fa = some o → o.data = .func (docDef d.name d.params d.body d.scope pm cd doc) → s₁.heap.CodeRec cd d.name → mg d.name = some (.ref fa) →
      s₁.heap.get? a = some { cls := .type "list", data := .seq vs.toArray } → IntsAre vs ns → ns.length ≤ n → s₁.gens = #[] →
      codeAny (model l.prog w) callerA (.call (.ref fa) ⟨[.ref a], []⟩) (fun r s' => r = .ok (.ret (.bool true)) ∧ OldK s₁.heap s'.heap ∧ s'.os = s₁.os ∧ AllBare s'.gens) s₁) :
    WalkO q loose XP YP l.row.toRowW d [] (fun f vs => PySem.call f vs) := by
  intro w s₀ s₁ mg mb G Y fa o pm cd doc dV kV ho hd hcd hD hmg hg args vals as hpre hlay hrd hwl hlo
  obtain rfl : dV = .none := Dflts.none hD hdf
  obtain rfl : kV = .none := Dflts.noKw hD
  obtain ⟨a, vs, ns, rfl, rfl, hobj, hints, hlen⟩ := script_of hn hpre hwl
  refine enter_call (codeAny_mono (call w s₀ s₁ mg mb fa o pm cd doc a vs ns G Y ho (fd_plain hd) hcd hmg hobj hints hlen hg) fun r s' hq => ?_)
  obtain ⟨rfl, h2, h3, h4⟩ := hq
  exact ⟨.inl ⟨.bool true, .bool true, [], rfl, fun _ => rfl, .bool true, post_true l _, fun _ => ⟨List.Pairwise.nil, fun _ hm => (nomatch hm)⟩⟩, h2, h3, h4⟩
section
variable {prog : Program} {w : World} {A : Around} {E : Value → Shared → Prop} {s : Shared} {K : Frag}
end
end Att
namespace L2
open PySem PySem.Spec PyProof.Rows
theorem vals_ints : ∀ {vs : List Value} {ns : List Int}, IntsAre vs ns → Vals (ns.map V.int) vs
  | _, _, .nil => .nil
  | _, _, .cons n t h => .cons ⟨t, rfl⟩ (vals_ints h)
def Only (H : Hp) : Prop := ∀ b, H b = none ∨ ∃ o xs, H b = some (.frz o (.lst xs))
theorem law_call {P : Program} {w : World} {K : PySem.W.Frag} {mg mb : Str → Option Value} {CX : CXT} {k : Nat} {fa a : Addr} {fd : FuncData} {x : Str} {sp : Sp} {s₁ : Shared} {vs : List Value} {ns : List Int}
    (KX : K.In s₁.heap) (hns : s₁.heap.Ns mainGlobals mg) (hb : s₁.heap.Ns builtinsNs mb) (hbb : ∀ x : Str, x ≠ "__name__" → mb x = bootBuiltins x) (hlim : s₁.heap.NoLimit) (hg : s₁.gens = #[])
    (ha : s₁.heap.get? a = some { cls := .type "list", data := .seq vs.toArray }) (hi : IntsAre vs ns) (hl : ns.length ≤ sizeLine) (hr : Room k callerA)
    (F : ∀ base : Heap, K.In base → base.Ns mainGlobals mg → FnOk P w K mg base CX k fa fd [x] sp) (hbind : ∀ (s : Shared) (u : Value), BindsTo s fd ⟨[u], []⟩ [(x, u)])
    (hsp : ∀ H : Hp, Only H → SqL K H a (ns.map V.int) → sp [.ref a] H (fun v _ => v = .bl true) fun _ _ _ => False)
    (hCX : ∀ H e s', CX [] H s₁ (fun _ _ _ => False) e s' → False) :
    codeAny (model P w) callerA (.call (.ref fa) ⟨[.ref a], []⟩) (fun r s' => r = .ok (.ret (.bool true)) ∧ OldK s₁.heap s'.heap ∧ s'.os = s₁.os ∧ AllBare s'.gens) s₁ := by
  have rv := vals_ints hi
  have lenV := hi.length
  -- from an abstract heap in which nothing but the script may be tracked
  have core : ∀ H : Hp, Only H → SqL K H a (ns.map V.int) → HOk P w H s₁.heap → (∀ b, H b ≠ none → b = a) → (H a ≠ none → K.lookup a = none) →
      codeAny (model P w) callerA (.call (.ref fa) ⟨[.ref a], []⟩) (fun r s' => r = .ok (.ret (.bool true)) ∧ OldK s₁.heap s'.heap ∧ s'.os = s₁.os ∧ AllBare s'.gens) s₁ := by
    intro H hO hS hok hA hK
    have base_of : ∀ {b : Addr} {o : Obj}, s₁.heap.get? b = some o → H b = none → (hidT s₁.heap H).get? b = some o := fun e n => hidT_get e n
    have noA : ∀ {b : Addr} {o : Obj} {es : Array DictEntry} {ep : Nat}, s₁.heap.get? b = some o → o.data = .dict es ep → H b = none := fun {b o es ep} e d => by
      cases q : H b with
      | none => rfl
      | some u =>
        have e' : b = a := hA b (by rw [q]; simp)
        subst e'
        rw [ha] at e; cases e
        have d' : Data.seq vs.toArray _ = Data.dict es ep := d
        cases d'
    have nsK : ∀ {b : Addr} {m : Str → Option Value}, s₁.heap.Ns b m → (hidT s₁.heap H).Ns b m := fun {b m} ⟨o, es, ep, e, d, r⟩ => ⟨o, es, ep, base_of e (noA e d), d, r⟩
    have hKb : K.In (hidT s₁.heap H) := fun b o e => base_of (KX b o e) (by
      cases q : H b with
      | none => rfl
      | some u =>
        have e' : b = a := hA b (by rw [q]; simp)
        subst e'
        rw [hK (by rw [q]; simp)] at e; cases e)
    have hM : Mod K mg (hidT s₁.heap H) := ⟨hKb, nsK hns, ⟨mb, nsK hb, hbb⟩, let ⟨mc, h1, h2⟩ := hlim; ⟨mc, nsK h1, h2⟩⟩
    have e0 : Env0 P w K mg (hidT s₁.heap H) callerA [] s₁ H := ⟨rfl, hM, fun b o e => of_hidT e, Nat.le_of_eq (hidT_size _ _), trivial, fun b hb => absurd (show b ∈ ([] : List Addr) from hb) (by simp), hok, .of_eq hg⟩
    refine codeAny_mono ((F _ hKb (nsK hns)).run callerA [] s₁ H ⟨[.ref a], []⟩ [.ref a] [.ref a] _ _ hr e0 (hbind s₁ (.ref a)) (.cons rfl .nil) (hsp H hO hS)) fun r s' h => ?_
    cases r with
    | error e => exact (hCX H e s' h).elim
    | ok fl =>
      cases fl with
      | next => exact False.elim h
      | brk => exact False.elim h
      | cont => exact False.elim h
      | ret u =>
        obtain ⟨v, H', os, bare, un, hok', r', q⟩ := h
        have q' : v = .bl true := q
        subst q'
        obtain rfl : u = Value.bool true := r'
        refine ⟨rfl, OldK.of_keep fun b o e => ?_, os, bare⟩
        cases q : H b with
        | none => exact un.keep b o e q (by intro z; exact absurd (show b ∈ ([] : List Addr) from z) (by simp)) (by simp)
        | some u =>
          rcases hO b with z | ⟨ob, xs, z⟩
          · rw [q] at z; cases z
          · have z2 := un.frzs b ob _ z
            obtain ⟨e1, _⟩ := hok b _ z
            obtain ⟨e2, _⟩ := hok' b _ z2
            rw [e] at e1; cases e1
            exact e2
  cases hk : K.lookup a with
  | some o =>
    -- the script is one of the module's own objects
    have e := KX a o hk
    rw [ha] at e
    cases e
    refine core (fun _ => none) (fun _ => .inl rfl) (.inr ⟨_, vs.toArray, _, hk, rfl, rfl, rfl, by rw [List.size_toArray, lenV]; exact hl, by simpa using rv⟩) (fun b u z => by have z' : (none : Option HO) = some u := z; cases z') (fun b z => absurd rfl z) fun z => absurd rfl z
  | none =>
    refine core (fun b => if b = a then some (.frz { cls := .type "list", data := .seq vs.toArray } (.lst (ns.map V.int))) else none) (fun b => ?_) (.inl (.inr ⟨{ cls := .type "list", data := .seq vs.toArray }, if_pos rfl⟩)) (fun b u z => ?_) (fun b z => ?_) fun _ => hk
    · by_cases hb : b = a
      · exact .inr ⟨_, _, if_pos hb⟩
      · exact .inl (if_neg hb)
    · by_cases hb : b = a
      · have z' := (if_pos hb).symm.trans z
        cases z'
        subst hb
        exact ⟨ha, by rw [List.length_map]; exact hl, vs, _, rv, ha⟩
      · have z' := (if_neg hb).symm.trans z
        cases z'
    · by_cases hb : b = a
      · exact hb
      · exact absurd (if_neg hb) z
end L2
namespace L2
open PySem PySem.Spec PyProof.Rows
theorem walk_of {l : PySem.W.OpenLaw} {n k : Nat} {q : Program} {loose : List Str} {XP : (Str → Option Value) → Heap → Prop} {YP : World → Heap → Prop} {d : DefRec} {K : Params → PySem.W.Frag} {CX : World → CXT} {sp : World → Sp} {x : Str}
    (hn : l.most = some n) (hn2 : n ≤ sizeLine) (hdf : d.params.defaults = []) (hr : Room k callerA)
    (hY : ∀ (w : World) (h : Heap), YP w h → (K w.params).In h)
    (F : ∀ (w : World) (mg : Str → Option Value) (fa : Addr) (h : Heap), (K w.params).In h → h.Ns mainGlobals mg → mg d.name = some (.ref fa) →
      ∃ fd : FuncData, (∀ (s : Shared) (u : Value), BindsTo s fd ⟨[u], []⟩ [(x, u)]) ∧
        ∀ base : Heap, (K w.params).In base → base.Ns mainGlobals mg → FnOk l.prog w (K w.params) mg base (CX w) k fa fd [x] (sp w))
    (hsp : ∀ (w : World) (H : Hp) (a : Addr) (ns : List Int), ns.length ≤ n → Only H → SqL (K w.params) H a (ns.map V.int) → sp w [.ref a] H (fun v _ => v = .bl true) fun _ _ _ => False)
    (hCX : ∀ (w : World) (H : Hp) (s : Shared) (e : Value) (s' : Shared), CX w [] H s (fun _ _ _ => False) e s' → False) :
    PySem.W.WalkO q loose XP YP l.row.toRowW d [] (fun f vs => PySem.call f vs) := by
  refine Att.attach_call hn hdf fun w s₀ s₁ mg mb fa o pm cd doc a vs ns G Y ho hd hcd hmg hobj hints hlen hg => ?_
  have KX := hY w _ Y
  obtain ⟨fd, hb, hF⟩ := F w mg fa _ KX G.T.g hmg
  exact law_call KX G.T.g G.T.b G.T.builtins G.T.nolimit hg hobj hints (Nat.le_trans hlen hn2) hr hF hb (fun H hO hS => hsp w H a ns hlen hO hS) fun H e s' => hCX w H s₁ e s'
end L2
namespace L2
open PySem PySem.Spec PyProof.Rows
def defArgs (s : Stmt) : Arguments := match s with
  | .FunctionDef _ a _ _ _ _ _ _ _ _ => a
  | _ => { posonlyargs := [], args := [], vararg := none, kwonlyargs := [], kw_defaults := [], kwarg := none, defaults := [] }
def defBody (s : Stmt) : List Stmt := match s with
  | .FunctionDef _ _ b _ _ _ _ _ _ _ => b
  | _ => []
def defScope (s : Stmt) : Scope := match s with
  | .FunctionDef _ _ _ _ _ _ sc _ _ _ => sc
  | _ => { kind := .function, names := [], isGenerator := false, isCoroutine := false }
abbrev CX0 : CXT := fun _ _ _ _ _ _ => False
abbrev E0 : XK := fun _ _ _ => False
theorem pass0 {X : Cx} : Passes CX0 X E0 := fun _ _ _ _ _ _ _ h => h.elim
structure Fun (K : PySem.W.Frag) (x qual : Str) (st : Stmt) (f : Addr) (fd : FuncData) : Prop where
  ex : ∃ (oc : Value) (od : Option Addr) (kV doc pm : Value) (an : Option Addr) (cdv ct : Value) (osl : Array (Option Value)),
    fd = PySem.W.fnOf x qual (defArgs st) (defBody st) (defScope st) .none kV doc pm an cdv ct ∧ K.lookup f = some ⟨oc, od, .func fd, osl⟩ ∧ PySem.W.codeIn K cdv qual = true
  kp : PySem.W.keepIn K (.ref f) = true
section
variable {P : Program} {w : World} {K : PySem.W.Frag} {mg : Str → Option Value} {base : Heap}
theorem Fun.ok {x qual : Str} {st : Stmt} {f : Addr} {fd : FuncData} {N ps : List Str} {k : Nat} {sp : Sp} (F : Fun K x qual st f fd) (S : FnScope N ps (defScope st)) (len : ∀ vs H Q E, sp vs H Q E → vs.length = ps.length)
    (hbody : ∀ (cdv : Value) (A : Around) (outer : List Env) (s : Shared) (H : Hp) (vs : List V) (Q : VK) (E : XK), Room k (A.deeper (envOfC qual (defScope st) s.heap.objs.size f cdv)) → sp vs H Q E →
      ∃ t, PSs (cxOf CX0 P w K mg base N qual (defScope st) f cdv A outer s H E).nox (defBody st) t ∧ t { nx := fun _ H' => Q .non H', rt := Q } (start N vs) H) : FnOk P w K mg base CX0 (k + 1) f fd ps sp := by
  obtain ⟨oc, od, kV, doc, pm, an, cdv, ct, osl, rfl, lk, hcd⟩ := F.ex
  refine fn_of lk hcd S len fun A outer s H vs Q E hr hsp => ?_
  obtain ⟨t, h, q⟩ := hbody cdv A outer s H vs Q E hr hsp
  exact ⟨t, h.nox, q⟩
theorem Fun.binds {x qual : Str} {st : Stmt} {f : Addr} {fd : FuncData} {ps : List Str} (F : Fun K x qual st f fd)
    (h : ∀ (kV doc pm : Value) (an : Option Addr) (cdv ct : Value) (us : List Value), us.length = ps.length → bindArgs (PySem.W.fnOf x qual (defArgs st) (defBody st) (defScope st) .none kV doc pm an cdv ct) ⟨us, []⟩ = pure (ps.zip us)) : Binds K fd ps [] := by
  obtain ⟨oc, od, kV, doc, pm, an, cdv, ct, osl, rfl, lk, hcd⟩ := F.ex
  exact .all (h kV doc pm an cdv ct)
theorem fun_mk {x qual : Str} {st : Stmt} {f : Addr} {oc : Value} {od an : Option Addr} {osl : Array (Option Value)} {kV doc pm cdv ct : Value} (l : K.lookup f = some ⟨oc, od, .func (PySem.W.fnOf x qual (defArgs st) (defBody st) (defScope st) .none kV doc pm an cdv ct), osl⟩)
    (c : PySem.W.codeIn K cdv qual = true) (k : PySem.W.keepIn K (.ref f) = true) : Fun K x qual st f (PySem.W.fnOf x qual (defArgs st) (defBody st) (defScope st) .none kV doc pm an cdv ct) := ⟨⟨oc, od, kV, doc, pm, an, cdv, ct, osl, rfl, l, c⟩, k⟩
end
theorem small1000 {n : Nat} (h : n ≤ 1000) : n < sizeLine := Nat.lt_of_le_of_lt h (by decide)
section
variable {X : Cx}
theorem pv (i : Nat) {x : Str} {pos : Pos} (hN : X.N[i]? = some x := by rfl) (hv : Vis X.env.scope x := by first | exact Or.inl rfl | exact Or.inr (Or.inl rfl) | exact Or.inr (Or.inr rfl)) (hd : (x == ("__debug__" : Str)) = false := by decide)
    (hcd : (x == ("__classdict__" : Str)) = false := by decide) : PE X (.Name x pos) (tVar i) := pe_var hN hv hd hcd
end
theorem ite2 {c A B : Prop} [Decidable c] (h1 : c → A) (h2 : ¬ c → B) : if c then A else B := by
  by_cases h : c
  · rw [if_pos h]
    exact h1 h
  · rw [if_neg h]
    exact h2 h
def Same (H H' : Hp) : Prop := ∀ b o, H b = some o → H' b = some o
theorem Same.refl (H : Hp) : Same H H := fun _ _ h => h
theorem Same.trans {H H1 H2 : Hp} (a : Same H H1) (b : Same H1 H2) : Same H H2 := fun c o h => b c o (a c o h)
theorem Same.free {H H' : Hp} (e : Same H H') {l : Addr} (h : H' l = Option.none) : H l = Option.none := by
  cases q : H l with
  | none => rfl
  | some o =>
    rw [e l o q] at h
    cases h
end L2
namespace L2
open PySem PySem.Spec PyProof.Rows
section
variable {X : Cx}
end
end L2
namespace L2
open PySem PySem.Spec PyProof.Rows
section
variable {κ : Type} [DecidableEq κ]
end
end L2
set_option Elab.async false
set_option linter.all false
set_option maxRecDepth 100000
namespace L2
open PySem PySem.Spec PyProof.Rows
section
variable {σ : St} {H : Hp} {Q : VK} {D : Ends}
theorem w_var {i : Nat} : tVar i σ H Q = ∃ v, σ[i]? = some (some v) ∧ Q v H := rfl
theorem w_C {v : V} : tC v σ H Q = Q v H := rfl
theorem w_op {r : R2} {ta tb : TE} : tOp r ta tb σ H Q = ta σ H fun x H1 => tb σ H1 fun y H2 => r x y H2 Q := rfl
theorem w_un {r : V → Hp → VK → Prop} {ta : TE} : tUn r ta σ H Q = ta σ H fun x H1 => r x H1 Q := rfl
theorem w_rI {C : Int → Int → Prop} {g : Int → Int → V} {i j : Int} : rI C g (.int i) (.int j) H Q = (C i j ∧ Q (g i j) H) :=
  propext ⟨fun ⟨a, b, e1, e2, c, q⟩ => by cases e1; cases e2; exact ⟨c, q⟩, fun ⟨c, q⟩ => ⟨i, j, rfl, rfl, c, q⟩⟩
theorem w_rI0 {g : Int → Int → V} {i j : Int} : rI0 g (.int i) (.int j) H Q = Q (g i j) H :=
  propext ⟨fun ⟨a, b, e1, e2, q⟩ => by cases e1; cases e2; exact q, fun q => ⟨i, j, rfl, rfl, q⟩⟩
theorem w_rU {g : Int → V} {i : Int} : rU g (.int i) H Q = Q (g i) H :=
  propext ⟨fun ⟨a, e1, q⟩ => by cases e1; exact q, fun q => ⟨i, rfl, q⟩⟩
theorem w_eqI {i j : Int} : rEq (.int i) (.int j) H Q = Q (.bl (decide (i = j))) H :=
  propext (by
    have e : decide (V.int i = V.int j) = decide (i = j) := by by_cases h : i = j <;> simp [h]
    unfold rEq; rw [e]; exact ⟨fun h => h.2, fun h => ⟨rfl, h⟩⟩)
theorem w_neI {i j : Int} : rNe (.int i) (.int j) H Q = Q (.bl (!decide (i = j))) H :=
  propext (by
    have e : decide (V.int i = V.int j) = decide (i = j) := by by_cases h : i = j <;> simp [h]
    unfold rNe; rw [e]; exact ⟨fun h => h.2, fun h => ⟨rfl, h⟩⟩)
theorem w_seq {t u : TS} : tSeq t u D σ H = t { D with nx := u D } σ H := rfl
theorem w_next : tNext D σ H = D.nx σ H := rfl
theorem w_break : tBreak D σ H = D.bk σ H := rfl
theorem w_cont : tCont D σ H = D.ct σ H := rfl
theorem w_ifS {c : TT} {t u : TS} : tIfS c t u D σ H = c σ H fun b H1 => if b = true then t D σ H1 else u D σ H1 := rfl
theorem w_ret {te : TE} : tRet te D σ H = te σ H D.rt := rfl
theorem w_retN : tRetN D σ H = D.rt .non H := rfl
theorem w_drop {te : TE} : tDrop te D σ H = te σ H fun _ H1 => D.nx σ H1 := rfl
theorem w_asg {te : TE} {g : TG} : tAsg te g D σ H = te σ H fun x H1 => g x σ H1 D.nx := rfl
theorem w_gName {i : Nat} {v : V} {R : St → Hp → Prop} : gName i v σ H R = R (σ.set i (some v)) H := rfl
theorem w_gSub {to ti : TE} {t : TSet} {v : V} {R : St → Hp → Prop} : gSub to ti t v σ H R = to σ H fun o H1 => ti σ H1 fun i H2 => t o i v H2 fun H3 => R σ H3 := rfl
theorem w_test {t : TE} {R : Bool → Hp → Prop} : tTest t σ H R = t σ H fun x H' => ∃ k, x = .bl k ∧ R k H' := rfl
theorem w_B {t : TE} {R : Bool → Hp → Prop} : tB t σ H R = t σ H fun x H' => ∃ k, x = .bl k ∧ R k H' := rfl
theorem w_and {t u : TT} {R : Bool → Hp → Prop} : tAnd t u σ H R = t σ H fun c H1 => if c = true then u σ H1 R else R false H1 := rfl
theorem w_or {t u : TT} {R : Bool → Hp → Prop} : tOr t u σ H R = t σ H fun c H1 => if c = true then R true H1 else u σ H1 R := rfl
theorem w_not {t : TT} {R : Bool → Hp → Prop} : tNot t σ H R = t σ H fun c H1 => R (!c) H1 := rfl
theorem w_andV {ta tb : TE} : tAndV ta tb σ H Q = ta σ H fun x H1 => ∃ c, x = .bl c ∧ if c = true then tb σ H1 Q else Q (.bl false) H1 := rfl
theorem w_orV {ta tb : TE} : tOrV ta tb σ H Q = ta σ H fun x H1 => ∃ c, x = .bl c ∧ if c = true then Q (.bl true) H1 else tb σ H1 Q := rfl
theorem w_notV {ta : TE} : tNotV ta σ H Q = ta σ H fun x H1 => ∃ c, x = .bl c ∧ Q (.bl (!c)) H1 := rfl
theorem w_if {t : TT} {ta tb : TE} : tIf t ta tb σ H Q = t σ H fun c H1 => if c = true then ta σ H1 Q else tb σ H1 Q := rfl
theorem w_call {sp : Sp} {dvs : List V} {E : XK} {t : TA} : tCall sp dvs E t σ H Q = t σ H fun vs H1 => sp (vs ++ dvs) H1 Q E := rfl
theorem w_nil {R : List V → Hp → Prop} : tNil σ H R = R [] H := rfl
theorem w_cons {ta : TE} {tr : TA} {R : List V → Hp → Prop} : tCons ta tr σ H R = ta σ H fun x H1 => tr σ H1 fun xs H2 => R (x :: xs) H2 := rfl
theorem w_CB {r : List V → Hp → VK → Prop} {t : TA} : tCB r t σ H Q = t σ H fun vs H1 => r vs H1 Q := rfl
theorem w_lst {t : TA} : tLst t σ H Q = t σ H fun xs H1 => xs.length ≤ sizeLine ∧ ∀ p, H1 p = none → Q (.ref p) (upd H1 p (.lst xs)) := rfl
theorem w_tup {t : TA} : tTup t σ H Q = t σ H fun xs H1 => xs.length ≤ sizeLine ∧ ∀ p, H1 p = none → Q (.ref p) (upd H1 p (.tup xs)) := rfl
theorem w_isN {ta : TE} : tIsN ta σ H Q = ta σ H fun x H1 => Q (.bl (decide (x = .non))) H1 := rfl
theorem w_notN {ta : TE} : tNotN ta σ H Q = ta σ H fun x H1 => Q (.bl (!decide (x = .non))) H1 := rfl
theorem w_chain {r r' : R2} {ta tb tc : TE} : tChain r r' ta tb tc σ H Q = (ta σ H fun x H1 => tb σ H1 fun y H2 => r x y H2 fun z H3 => ∃ k, z = .bl k ∧
  if k = true then tc σ H3 fun w H4 => r' y w H4 Q else Q (.bl false) H3) := by first | rfl | (unfold tChain; rfl)
end
section
variable {X : Cx} {st : Stmt} {rest : List Stmt} {t u : TS}
def tMid (t u : TS) : TS := fun D σ H => ∃ mid : St → Hp → Prop, t { D with nx := mid } σ H ∧ ∀ σ' H', mid σ' H' → u D σ' H'
theorem pss_mid (h1 : PS X st t) (h2 : PSs X rest u) : PSs X (st :: rest) (tMid t u) := by
  intro pins s σ H D I h
  obtain ⟨mid, q, k⟩ := h
  refine wpAny_execs_cons (thn (h1 pins s σ H { D with nx := mid } I q) fun f s1 q => ?_)
  cases f with
  | next =>
    obtain ⟨σ', H', I', q⟩ := q
    exact h2 pins s1 σ' H' D I' (k _ _ q)
  | ret v => exact q
  | brk => exact q
  | cont => exact q
end
structure Cal (P : Program) (w : World) (K : PySem.W.Frag) (mg : Str → Option Value) (base : Heap) (k : Nat) (x : Str) (ps : List Str) (sp : Sp) : Prop where
  ex : ∃ (f : Addr) (fd : FuncData), FnOk P w K mg base CX0 k f fd ps sp ∧ mg x = some (.ref f) ∧ PySem.W.keepIn K (.ref f) = true ∧ Binds K fd ps []
theorem Cal.mono {P : Program} {w : World} {K : PySem.W.Frag} {mg : Str → Option Value} {base : Heap} {j k : Nat} {x : Str} {ps : List Str} {sp : Sp} (C : Cal P w K mg base j x ps sp) (h : j ≤ k) : Cal P w K mg base k x ps sp := by
  obtain ⟨f, fd, a, b, c, d⟩ := C.ex
  exact ⟨f, fd, a.mono h, b, c, d⟩
section
variable {X : Cx} {k : Nat} {x : Str} {ps : List Str} {sp : Sp} {e : Expr} {es : List Expr} {t : TA} {p pos : Pos}
theorem pe_cal (C : Cal X.prog X.w X.K X.mg X.base k x ps sp) (hr : Room k X.A) (hg : Gl X x) (ha : PA X (e :: es) t) (hd : (x == ("__debug__" : Str)) = false := by decide)
    (he : starEach (e :: es) X.env = (false, eval e X.env) :: starEach es X.env := by rfl) (hpl : (backTo pos (starEach es X.env)).any (·.1) = false := by rfl) : PE X (.Call (.Name x p) (e :: es) [] pos) (tCall sp [] E0 t) := by
  obtain ⟨f, fd, a, b, c, d⟩ := C.ex
  exact pe_call a hr hg b c d .nil pass0 ha hd he hpl
end
theorem bits_le {i : Int} {n : Nat} (h : i.natAbs < 2 ^ n) : Builtin.Int.intBits i ≤ n := by
  unfold Builtin.Int.intBits
  split
  · exact Nat.zero_le _
  · rename_i h0
    have hp : i.natAbs ≠ 0 := by
      intro z
      exact h0 (by simpa using z)
    have : i.natAbs.log2 < n := (Nat.log2_lt hp).mpr h
    omega
def CShl (i j : Int) : Prop := 0 ≤ j ∧ j ≤ 1000000 ∧ Builtin.Int.intBits i ≤ 1000000
def CDivB (i j : Int) : Prop := 0 < j ∧ j.natAbs.log2 < 9000
section
variable {X : Cx}
theorem op_mulB : OpR X (binaryOp .Mult) (rI IntMulOk fun i j => .int (i * j)) := opI fun _ _ _ _ _ _ _ hc q => mul_int q hc
theorem op_fdivB : OpR X (binaryOp .FloorDiv) (rI CDivB fun i j => .int (i / j)) := opI fun i j _ _ _ _ _ hc q => by
  have e : i / j = i.fdiv j := (Int.fdiv_eq_ediv_of_nonneg i (Int.le_of_lt hc.1)).symm
  rw [e] at q
  exact floordiv_int (by have := hc.1; omega) q (.inl (PyProof.noPylong_of_log2 hc.2))
def rIsI (K : PySem.W.Frag) : List V → Hp → VK → Prop := fun xs H Q => ∃ x T t b, xs = [x, .ty T] ∧ TyOf K H x t ∧ PySem.W.kitOne K t (.type T) = some b ∧ Q (.bl b) H
end
theorem mul_l {i j : Int} (h1 : -(2 ^ 64) < i) (h2 : i < 2 ^ 64) : IntMulOk i j := .of_left (intBits_le_64 h1 h2)
theorem mul_r {i j : Int} (h1 : -(2 ^ 64) < j) (h2 : j < 2 ^ 64) : IntMulOk i j := .of_right (intBits_le_64 h1 h2)
theorem kit_same {K : PySem.W.Frag} (T : String) : PySem.W.kitOne K (.type T) (.type T) = some true := by unfold PySem.W.kitOne; rw [if_pos (by simp)]
theorem kit_int_bool {K : PySem.W.Frag} : PySem.W.kitOne K (.type "int") (.type "bool") = some false := by first | rfl | decide +kernel | (unfold PySem.W.kitOne PySem.W.kitCls; decide +kernel)
theorem kit_bool_int {K : PySem.W.Frag} : PySem.W.kitOne K (.type "bool") (.type "int") = some true := by first | rfl | decide +kernel
theorem kit_non_int {K : PySem.W.Frag} : PySem.W.kitOne K (.type "NoneType") (.type "int") = some false := by first | rfl | decide +kernel
theorem kit_str_int {K : PySem.W.Frag} : PySem.W.kitOne K (.type "str") (.type "int") = some false := by first | rfl | decide +kernel
end L2
set_option Elab.async false
set_option linter.all false
set_option maxRecDepth 100000
namespace L2
open PySem PySem.Spec PyProof.Rows
theorem bo_len : bootBuiltins "len" = some (.builtin "len") := by decide +kernel
theorem bo_abs : bootBuiltins "abs" = some (.builtin "abs") := by decide +kernel
theorem bo_max : bootBuiltins "max" = some (.builtin "max") := by decide +kernel
theorem bo_isinstance : bootBuiltins "isinstance" = some (.builtin "isinstance") := by decide +kernel
theorem bo_int : bootBuiltins "int" = some (.type "int") := by decide +kernel
theorem bo_list : bootBuiltins "list" = some (.type "list") := by decide +kernel
def CPowB (i j : Int) : Prop := 0 ≤ j ∧ j ≤ 1000000 ∧ -(2 ^ 64) < i ∧ i < 2 ^ 64
section
variable {X : Cx}
theorem op_powB : OpR X (binaryOp .Pow) (rI CPowB fun i j => .int (i ^ j.toNat)) := opI fun i j _ _ _ _ _ hc q => pow_int_small hc.1 hc.2.1 (by have h1 := hc.2.2.1; have h2 := hc.2.2.2; omega) q
end
theorem w_shl1 {j : Int} : CShl 1 j = (0 ≤ j ∧ j ≤ 1000000) := propext ⟨fun h => ⟨h.1, h.2.1⟩, fun h => ⟨h.1, h.2, Nat.le_trans (bits_le (n := 1) (by decide)) (by decide)⟩⟩
theorem divB {i j : Int} (h : 0 < j) (h2 : j < 2 ^ 64) : CDivB i j := ⟨h, by
  have e : j.natAbs < 2 ^ 64 := by omega
  have e2 : j.natAbs ≠ 0 := by omega
  have := (Nat.log2_lt e2).mpr e
  omega⟩
section
variable {P : Program} {w : World} {K : PySem.W.Frag} {mg : Str → Option Value} {base : Heap}
theorem mkCal {x qual : Str} {st : Stmt} {N ps : List Str} {k : Nat} {sp : Sp} (T : ∃ (f : Addr) (fd : FuncData), Fun K x qual st f fd ∧ mg x = some (.ref f) ∧ Binds K fd ps []) (S : FnScope N ps (defScope st)) (len : ∀ vs H Q E, sp vs H Q E → vs.length = ps.length)
    (hbody : ∀ (f : Addr) (cdv : Value) (A : Around) (outer : List Env) (s : Shared) (H : Hp) (vs : List V) (Q : VK) (E : XK), Room k (A.deeper (envOfC qual (defScope st) s.heap.objs.size f cdv)) → sp vs H Q E →
      ∃ t, PSs (cxOf CX0 P w K mg base N qual (defScope st) f cdv A outer s H E).nox (defBody st) t ∧ t { nx := fun _ H' => Q .non H', rt := Q } (start N vs) H) : Cal P w K mg base (k + 1) x ps sp := by
  obtain ⟨f, fd, F, m, b⟩ := T
  exact ⟨f, fd, F.ok S len fun cdv A outer s H vs Q E hr h => hbody f cdv A outer s H vs Q E hr h, m, F.kp, b⟩
end
def Chg (p : Addr) (H H' : Hp) : Prop := ∀ b o, b ≠ p → H b = some o → H' b = some o
theorem Chg.trans {p : Addr} {H H1 H2 : Hp} (a : Chg p H H1) (b : Chg p H1 H2) : Chg p H H2 := fun c o n h => b c o n (a c o n h)
theorem Same.chg {p : Addr} {H H' : Hp} (h : Same H H') : Chg p H H' := fun b o _ q => h b o q
theorem Chg.upd {p : Addr} {H : Hp} (o : HO) : Chg p H (upd H p o) := fun b u n q => by rw [upd_ne n]; exact q
theorem same_new {H : Hp} {p : Addr} (h : H p = none) (o : HO) : Same H (upd H p o) := fun b u q => by rw [upd_ne (ne_of_none q h)]; exact q
def Scr (K : PySem.W.Frag) (H : Hp) (a : Addr) (ns : List Int) : Prop :=
  (∃ o, H a = some (.frz o (.lst (ns.map V.int)))) ∨ (∃ (o : Obj) (its : Array Value) (n : Nat), K.lookup a = some o ∧ o.cls = .type "list" ∧ o.dict = none ∧ o.data = .seq its n ∧ its.size ≤ sizeLine ∧ Vals (ns.map V.int) its.toList)
section
variable {K : PySem.W.Frag} {H H' : Hp} {a p : Addr} {ns : List Int}
theorem Scr.sq (h : Scr K H a ns) : SqL K H a (ns.map V.int) := by
  rcases h with h | h
  · exact .inl (.inr h)
  · exact .inr h
theorem scr_of (hO : Only H) (hS : SqL K H a (ns.map V.int)) : Scr K H a ns := by
  rcases hS with (h | h) | h
  · rcases hO a with z | ⟨o, xs, z⟩
    · rw [z] at h; cases h
    · rw [z] at h; cases h
  · exact .inl h
  · exact .inr h
theorem Scr.same (h : Scr K H a ns) (s : Same H H') : Scr K H' a ns := by
  rcases h with ⟨o, h⟩ | h
  · exact .inl ⟨o, s _ _ h⟩
  · exact .inr h
theorem Scr.chg {xs : List V} (h : Scr K H a ns) (hp : H p = some (.lst xs)) (s : Chg p H H') : Scr K H' a ns := by
  rcases h with ⟨o, h⟩ | h
  · exact .inl ⟨o, s _ _ (ne_of h hp (by intro z; cases z)) h⟩
  · exact .inr h
end
def spLaw (K : PySem.W.Frag) : Sp := fun vs H Q _ => ∃ (a : Addr) (ns : List Int), vs = [.ref a] ∧ Scr K H a ns ∧ ns.length ≤ 63 ∧ ∀ H', Q (.bl true) H'
theorem atI_int {ns : List Int} {i : Int} (h0 : 0 ≤ i) (h1 : i < (ns.length : Int)) : ∃ v : Int, atI (ns.map V.int) i = some (.int v) ∧ ns[i.toNat]? = some v := by
  have hk : i.toNat < ns.length := by omega
  have e : i = ((i.toNat : Nat) : Int) := by omega
  have q : atI (ns.map V.int) ((i.toNat : Nat) : Int) = some (.int ns[i.toNat]) := atI_nat (by rw [List.getElem?_map, List.getElem?_eq_getElem hk] <;> rfl)
  rw [← e] at q
  exact ⟨ns[i.toNat], q, List.getElem?_eq_getElem hk⟩
def lim : Nat → Int
  | 0 => 11
  | n + 1 => 1000000 * (lim n - 1)
def rIxM : R2 := fun x y H Q => ∃ p xs i v, x = .ref p ∧ y = .int i ∧ H p = some (.lst xs) ∧ atI xs i = some v ∧ Q v H
def rIxU : R2 := fun x y H Q => ∃ p xs i v, x = .ref p ∧ y = .int i ∧ H p = some (.tup xs) ∧ atI xs i = some v ∧ Q v H
section
variable {X : Cx}
theorem IxR.mono {r r' : R2} (h : IxR X r) (m : ∀ x y H Q, r' x y H Q → r x y H Q) : IxR X r' := fun va sl pins s σ H x y v u Q I rx ry q hs => h va sl pins s σ H x y v u Q I rx ry (m _ _ _ _ q) hs
theorem ix_M : IxR X rIxM := ix_list.mono fun x y H Q ⟨p, xs, i, v, e1, e2, h, a, q⟩ => ⟨p, xs, i, v, e1, e2, SqL.of h, a, q⟩
theorem ix_U : IxR X rIxU := ix_tup.mono fun x y H Q ⟨p, xs, i, v, e1, e2, h, a, q⟩ => ⟨p, xs, i, v, e1, e2, SqT.of h, a, q⟩
theorem CallR.mono {f : Value} {r r' : List V → Hp → VK → Prop} (h : CallR X f r) (m : ∀ xs H Q, r' xs H Q → r xs H Q) : CallR X f r' := fun pins s σ H xs us Q I rx q => h pins s σ H xs us Q I rx (m _ _ _ q)
theorem call_lenM : CallR X (.builtin "len") (fun xs H Q => ∃ p ys, xs = [.ref p] ∧ H p = some (.lst ys) ∧ Q (.int ys.length) H) := call_len_seq.mono fun xs H Q ⟨p, ys, e, h, q⟩ => ⟨p, ys, e, .inl (SqL.of h), q⟩
theorem call_lenS : CallR X (.builtin "len") (fun xs H Q => ∃ p ys, xs = [.ref p] ∧ SqL X.K H p ys ∧ Q (.int ys.length) H) := call_len_seq.mono fun xs H Q ⟨p, ys, e, h, q⟩ => ⟨p, ys, e, .inl h, q⟩
end
section
variable {H : Hp} {Q : VK}
theorem w_ixM {p : Addr} {i : Int} : rIxM (.ref p) (.int i) H Q = ∃ xs, H p = some (.lst xs) ∧ ∃ v, atI xs i = some v ∧ Q v H :=
  propext ⟨fun ⟨p', xs, i', v, e1, e2, h, a, q⟩ => by cases e1; cases e2; exact ⟨xs, h, v, a, q⟩, fun ⟨xs, h, v, a, q⟩ => ⟨p, xs, i, v, rfl, rfl, h, a, q⟩⟩
theorem w_ixU {p : Addr} {i : Int} : rIxU (.ref p) (.int i) H Q = ∃ xs, H p = some (.tup xs) ∧ ∃ v, atI xs i = some v ∧ Q v H :=
  propext ⟨fun ⟨p', xs, i', v, e1, e2, h, a, q⟩ => by cases e1; cases e2; exact ⟨xs, h, v, a, q⟩, fun ⟨xs, h, v, a, q⟩ => ⟨p, xs, i, v, rfl, rfl, h, a, q⟩⟩
theorem w_ixL {K : PySem.W.Frag} {p : Addr} {i : Int} : rIxL K (.ref p) (.int i) H Q = ∃ xs, SqL K H p xs ∧ ∃ v, atI xs i = some v ∧ Q v H :=
  propext ⟨fun ⟨p', xs, i', v, e1, e2, h, a, q⟩ => by cases e1; cases e2; exact ⟨xs, h, v, a, q⟩, fun ⟨xs, h, v, a, q⟩ => ⟨p, xs, i, v, rfl, rfl, h, a, q⟩⟩
theorem w_setL {p : Addr} {k : Int} {v : V} {R : Hp → Prop} : rSetL (.ref p) (.int k) v H R = ∃ xs, H p = some (.lst xs) ∧ ∃ j, ixN xs.length k = some j ∧ R (upd H p (.lst (xs.set j v))) :=
  propext ⟨fun ⟨p', xs, k', j, e1, e2, h, a, q⟩ => by cases e1; cases e2; exact ⟨xs, h, j, a, q⟩, fun ⟨xs, h, j, a, q⟩ => ⟨p, xs, k, j, rfl, rfl, h, a, q⟩⟩
end
theorem at_0 {α : Type} {a : α} {l : List α} : atI (a :: l) 0 = some a := atI_nat (j := 0) rfl
theorem at_1 {α : Type} {a b : α} {l : List α} : atI (a :: b :: l) 1 = some b := atI_nat (j := 1) rfl
theorem at_2 {α : Type} {a b c : α} {l : List α} : atI (a :: b :: c :: l) 2 = some c := atI_nat (j := 2) rfl
theorem at_3 {α : Type} {a b c d : α} {l : List α} : atI (a :: b :: c :: d :: l) 3 = some d := atI_nat (j := 3) rfl
theorem ixN_0 {n : Nat} : ixN (n + 1) 0 = some 0 := by unfold ixN; rw [if_pos (Int.le_refl 0), if_pos (by omega)]; rfl
theorem ixN_1 {n : Nat} : ixN (n + 1 + 1) 1 = some 1 := by unfold ixN; rw [if_pos (by decide), if_pos (by omega)]; rfl
theorem ixN_2 {n : Nat} : ixN (n + 1 + 1 + 1) 2 = some 2 := by unfold ixN; rw [if_pos (by decide), if_pos (by omega)]; rfl
section
variable {CX : CXT} {P : Program} {w : World} {K : PySem.W.Frag} {mg : Str → Option Value} {base : Heap} {N : List Str} {qual : Str} {scope : Scope} {f : Addr} {cd : Value} {A : Around} {outer : List Env} {s : Shared} {H : Hp} {E : XK}
theorem w_cxK : (cxOf CX P w K mg base N qual scope f cd A outer s H E).K = K := rfl
end
theorem le_size {n : Nat} (h : n ≤ 1000) : n ≤ sizeLine := Nat.le_of_lt (small1000 h)
theorem sl_1 : (0 + 1 ≤ sizeLine) = True := eq_true (le_size (by decide))
theorem sl_2 : (0 + 1 + 1 ≤ sizeLine) = True := eq_true (le_size (by decide))
theorem sl_3 : (0 + 1 + 1 + 1 ≤ sizeLine) = True := eq_true (le_size (by decide))
theorem sl_4 : (0 + 1 + 1 + 1 + 1 ≤ sizeLine) = True := eq_true (le_size (by decide))
theorem sl_5 : (0 + 1 + 1 + 1 + 1 + 1 ≤ sizeLine) = True := eq_true (le_size (by decide))
theorem sl_6 : (0 + 1 + 1 + 1 + 1 + 1 + 1 ≤ sizeLine) = True := eq_true (le_size (by decide))
theorem sl_7 : (0 + 1 + 1 + 1 + 1 + 1 + 1 + 1 ≤ sizeLine) = True := eq_true (le_size (by decide))
theorem sl_8 : (0 + 1 + 1 + 1 + 1 + 1 + 1 + 1 + 1 ≤ sizeLine) = True := eq_true (le_size (by decide))
theorem sl_0 : (0 ≤ sizeLine) = True := eq_true (le_size (by decide))
theorem divq {g m : Int} (hg : 0 ≤ g) (hm : 0 < m) : 0 ≤ g / m := Int.ediv_nonneg hg (Int.le_of_lt hm)
theorem modq {g m : Int} (hm : 0 < m) : 0 ≤ g % m ∧ g % m < m := ⟨Int.emod_nonneg _ (by omega), Int.emod_lt_of_pos _ hm⟩
def ForR (lo : Int) (n : Nat) (g : TG) (tb : TS) (D : Ends) (σ : St) (H : Hp) : Prop := ∃ W : Nat → Nat → St → Hp → Prop, (∃ m, W 0 m σ H) ∧ ∀ i m σ H, W i m σ H →
  ((Itr lo n).stop i H ∧ D.nx σ H) ∨ ((Itr lo n).go i H ∧ ∃ N : St → Hp → Prop, (∀ σ' H', N σ' H' → ∃ m', m' < m ∧ W (i + 1) m' σ' H') ∧ ∀ x H', (Itr lo n).yld i H x H' → g x σ H' fun σ2 H2 => tb { D with nx := N, ct := N, bk := D.nx } σ2 H2)
def ForL (K : PySem.W.Frag) (a : Addr) (g : TG) (tb : TS) (D : Ends) (σ : St) (H : Hp) : Prop := ∃ W : Nat → Nat → St → Hp → Prop, (∃ m, W 0 m σ H) ∧ ∀ i m σ H, W i m σ H →
  ((Itl K a).stop i H ∧ D.nx σ H) ∨ ((Itl K a).go i H ∧ ∃ N : St → Hp → Prop, (∀ σ' H', N σ' H' → ∃ m', m' < m ∧ W (i + 1) m' σ' H') ∧ ∀ x H', (Itl K a).yld i H x H' → g x σ H' fun σ2 H2 => tb { D with nx := N, ct := N, bk := D.nx } σ2 H2)
def ForT (K : PySem.W.Frag) (a : Addr) (g : TG) (tb : TS) (D : Ends) (σ : St) (H : Hp) : Prop := ∃ W : Nat → Nat → St → Hp → Prop, (∃ m, W 0 m σ H) ∧ ∀ i m σ H, W i m σ H →
  ((Itt K a).stop i H ∧ D.nx σ H) ∨ ((Itt K a).go i H ∧ ∃ N : St → Hp → Prop, (∀ σ' H', N σ' H' → ∃ m', m' < m ∧ W (i + 1) m' σ' H') ∧ ∀ x H', (Itt K a).yld i H x H' → g x σ H' fun σ2 H2 => tb { D with nx := N, ct := N, bk := D.nx } σ2 H2)
section
variable {σ : St} {H : Hp} {D : Ends} {g : TG} {tb : TS} {K : PySem.W.Frag} {a : Addr}
theorem w_for1 {ta : TA} : tFor (iRng1 ta) g tb D σ H = (ta σ H fun vs H1 => ∃ j : Int, vs = [.int j] ∧ -(2 ^ 62) ≤ j ∧ j < 2 ^ 62 ∧ ForR 0 j.toNat g tb D σ H1) := rfl
theorem w_forL {tl : TE} : tFor (iList K tl) g tb D σ H = (tl σ H fun x H1 => ∃ a, x = .ref a ∧ (∃ xs, SqL K H1 a xs) ∧ ForL K a g tb D σ H1) := rfl
theorem w_forT {tl : TE} : tFor (iTup K tl) g tb D σ H = (tl σ H fun x H1 => ∃ a, x = .ref a ∧ (∃ xs, SqT K H1 a xs) ∧ ForT K a g tb D σ H1) := rfl
theorem forR {lo : Int} {n : Nat} (Pv : Nat → St → Hp → Prop) (h0 : Pv 0 σ H)
    (hs : ∀ i σ H (N : St → Hp → Prop), i < n → Pv i σ H → (∀ σ' H', Pv (i + 1) σ' H' → N σ' H') → g (.int (lo + i)) σ H fun σ2 H2 => tb { D with nx := N, ct := N, bk := D.nx } σ2 H2) (hd : ∀ σ H, Pv n σ H → D.nx σ H) : ForR lo n g tb D σ H :=
  for_range Pv h0 (fun i σ H h p => hs i σ H _ h p fun _ _ q => q) hd
theorem forL {xs : List V} (Pv : Nat → St → Hp → Prop) (h0 : Pv 0 σ H) (hl : ∀ i σ H, i ≤ xs.length → Pv i σ H → SqL K H a xs)
    (hs : ∀ i x σ H (N : St → Hp → Prop), xs[i]? = some x → Pv i σ H → (∀ σ' H', Pv (i + 1) σ' H' → N σ' H') → g x σ H fun σ2 H2 => tb { D with nx := N, ct := N, bk := D.nx } σ2 H2) (hd : ∀ σ H, Pv xs.length σ H → D.nx σ H) : ForL K a g tb D σ H := for_list Pv h0 hl (fun i x σ H h p => hs i x σ H _ h p fun _ _ q => q) hd
end
theorem r2 {r : Int} (h0 : 0 ≤ r) (h1 : r < 2) : r = 0 ∨ r = 1 := by omega
theorem r3 {r : Int} (h0 : 0 ≤ r) (h1 : r < 3) : r = 0 ∨ r = 1 ∨ r = 2 := by omega
theorem r4 {r : Int} (h0 : 0 ≤ r) (h1 : r < 4) : r = 0 ∨ r = 1 ∨ r = 2 ∨ r = 3 := by omega
theorem mid_of {t u : TS} {D : Ends} {σ : St} {H : Hp} (M : St → Hp → Prop) (h1 : ∀ N : St → Hp → Prop, (∀ σ H, M σ H → N σ H) → t { D with nx := N } σ H) (h2 : ∀ σ H, M σ H → u D σ H) : tMid t u D σ H := ⟨M, h1 M fun _ _ q => q, h2⟩
section
variable {K : PySem.W.Frag} {H : Hp} {Q : VK}
theorem isI_mk {x : V} {T : String} {t : Value} {b : Bool} (ty : TyOf K H x t) (u : ∀ t', TyOf K H x t' → t' = t) (k : PySem.W.kitOne K t (.type T) = some b) : rIsI K [x, .ty T] H Q = Q (.bl b) H :=
  propext ⟨fun ⟨x', T', t', b', e, ty', k', q⟩ => by
    cases e
    rw [u _ ty', k] at k'
    cases k'
    exact q, fun q => ⟨x, T, t, b, rfl, ty, k, q⟩⟩
theorem kit_non_bool : PySem.W.kitOne K (.type "NoneType") (.type "bool") = some false := by first | rfl | decide +kernel
theorem kit_str_bool : PySem.W.kitOne K (.type "str") (.type "bool") = some false := by first | rfl | decide +kernel
theorem w_isI_ii {i : Int} : rIsI K [.int i, .ty "int"] H Q = Q (.bl true) H := isI_mk (.int i) (fun _ h => by cases h; rfl) (kit_same _)
theorem w_isI_ib {i : Int} : rIsI K [.int i, .ty "bool"] H Q = Q (.bl false) H := isI_mk (.int i) (fun _ h => by cases h; rfl) kit_int_bool
theorem w_isI_bi {i : Bool} : rIsI K [.bl i, .ty "int"] H Q = Q (.bl true) H := isI_mk (.bl i) (fun _ h => by cases h; rfl) kit_bool_int
theorem w_isI_bb {i : Bool} : rIsI K [.bl i, .ty "bool"] H Q = Q (.bl true) H := isI_mk (.bl i) (fun _ h => by cases h; rfl) (kit_same _)
theorem w_isI_ni : rIsI K [.non, .ty "int"] H Q = Q (.bl false) H := isI_mk .non (fun _ h => by cases h; rfl) kit_non_int
theorem w_isI_nb : rIsI K [.non, .ty "bool"] H Q = Q (.bl false) H := isI_mk .non (fun _ h => by cases h; rfl) kit_non_bool
theorem w_isI_si {x : Str} : rIsI K [.str x, .ty "int"] H Q = Q (.bl false) H := isI_mk (.str x) (fun _ h => by cases h; rfl) kit_str_int
theorem w_isI_sb {x : Str} : rIsI K [.str x, .ty "bool"] H Q = Q (.bl false) H := isI_mk (.str x) (fun _ h => by cases h; rfl) kit_str_bool
end
end L2
set_option Elab.async false
set_option linter.all false
set_option maxRecDepth 100000
set_option maxHeartbeats 1000000
namespace L2
open PySem PySem.Spec PyProof.Rows
def closOf (scope : Scope) (env : Env) : List (Str × Addr) := (scope.names.filterMap fun x => if x.2 == .free then (env.cells.lookup x.1).map fun c => (x.1, c) else none).reverse
theorem closureFor_ok {scope : Scope} {env : Env} (h : ∀ x ∈ scope.names, x.2 = .free → ∃ c, env.cells.lookup x.1 = some c) : closureFor scope env = pure (closOf scope env) := by
  unfold closureFor closOf
  have all : ∀ (l : List (Str × NameKind)) (acc : List (Str × Addr)), (∀ x ∈ l, x.2 = .free → ∃ c, env.cells.lookup x.1 = some c) →
      (forIn l acc fun x r => (match x with | (name, kind) => if (kind == .free) = true then do let a ← cellOf env name; pure (ForInStep.yield ((name, a) :: r)) else pure (ForInStep.yield r) : Sem (ForInStep (List (Str × Addr))))) =
        pure ((l.filterMap fun x => if x.2 == .free then (env.cells.lookup x.1).map fun c => (x.1, c) else none).reverse ++ acc) := by
    intro l
    induction l with
    | nil => intro acc _; simp
    | cons x r ih =>
      intro acc hx
      obtain ⟨n, k⟩ := x
      have hr : ∀ y ∈ r, y.2 = .free → ∃ c, env.cells.lookup y.1 = some c := fun y hy => hx y (List.mem_cons_of_mem _ hy)
      by_cases hk : k = .free
      · subst hk
        obtain ⟨c, hc⟩ := hx (n, .free) List.mem_cons_self rfl
        have e1 : cellOf env n = pure c := by unfold cellOf; rw [show env.cells.lookup n = some c from hc]
        simp only [List.forIn_cons, beq_self_eq_true, if_true, e1, pure_bind, List.filterMap_cons]
        rw [ih _ hr]
        simp [show env.cells.lookup n = some c from hc]
      · have hb : (k == NameKind.free) = false := by simpa using hk
        simp only [List.forIn_cons, hb, Bool.false_eq_true, if_false, pure_bind, List.filterMap_cons]
        rw [ih _ hr]
  have := all scope.names [] h
  rw [List.append_nil] at this
  simp only [bind_pure]
  first | exact this | (rw [this]) | (simpa using this)
theorem mem_clos {scope : Scope} {env : Env} {x : Str} {c : Addr} (h : (closOf scope env).lookup x = some c) : env.cells.lookup x = some c := by
  have m := PySem.mem_of_lookup h
  unfold closOf at m
  rw [List.mem_reverse, List.mem_filterMap] at m
  obtain ⟨y, hy, e⟩ := m
  split at e
  · cases q : env.cells.lookup y.1 with
    | none => rw [q] at e; cases e
    | some d =>
      rw [q] at e
      simp only [Option.map_some, Option.some.injEq, Prod.mk.injEq] at e
      rw [← e.1, q, e.2]
  · cases e
theorem lookup_mem {α : Type} : ∀ {l : List (Str × α)} {x : Str} {c : α}, (x, c) ∈ l → ∃ d, l.lookup x = some d
  | (k, v) :: r, x, c, h => by
    rw [List.lookup_cons]
    cases hb : x == k with
    | true => exact ⟨v, rfl⟩
    | false =>
      rcases List.mem_cons.mp h with e | e
      · injection e with e1 e2
        subst e1
        simp at hb
      · exact lookup_mem e
theorem clos_has {scope : Scope} {env : Env} {x : Str} {c : Addr} (h : (x, NameKind.free) ∈ scope.names) (hc : env.cells.lookup x = some c) : (closOf scope env).lookup x = some c := by
  have m : (x, c) ∈ closOf scope env := by
    unfold closOf
    rw [List.mem_reverse, List.mem_filterMap]
    exact ⟨(x, .free), h, by simp [hc]⟩
  obtain ⟨d, hd⟩ := lookup_mem m
  have := mem_clos hd
  rw [hc] at this
  rw [hd, ← this]
theorem relabel_lookup {env : Env} : ∀ {names : List (Str × NameKind)} {x : Str} {k : NameKind},
    (names.map fun (n, k) => if (k == NameKind.free && env.scope.kind == .function && env.kindOf n == some .cell) then (n, NameKind.cell) else (n, k)).lookup x = some k →
    ∃ k0, names.lookup x = some k0 ∧ (k0 = k ∨ (k0 = .free ∧ k = .cell))
  | [], _, _, h => by simp at h
  | (n, k) :: r, x, k', h => by
    simp only [List.map_cons] at h
    by_cases hc : (k == NameKind.free && env.scope.kind == .function && env.kindOf n == some .cell) = true
    · rw [if_pos hc, List.lookup_cons] at h
      rw [List.lookup_cons]
      cases hb : x == n with
      | true =>
        rw [hb] at h
        simp only [Option.some.injEq] at h
        refine ⟨k, rfl, .inr ⟨?_, h.symm⟩⟩
        simp only [Bool.and_eq_true, beq_iff_eq] at hc
        exact hc.1.1
      | false =>
        rw [hb] at h
        exact relabel_lookup h
    · rw [if_neg hc, List.lookup_cons] at h
      rw [List.lookup_cons]
      cases hb : x == n with
      | true =>
        rw [hb] at h
        simp only [Option.some.injEq] at h
        exact ⟨k, rfl, .inl h⟩
      | false =>
        rw [hb] at h
        exact relabel_lookup h
theorem codeAny_compLoop_gen {prog : Program} {w : World} {A : Around} {R : Result → Shared → Prop} {s : Shared} {elt target iter : Expr} {ifs : List Expr} {scope : Scope} {pos : Pos} {it acc : Value} {env : Env} (I : Nat → Shared → Prop)
    (turn : ∀ n s, I n s → wpAny (model prog w) A (pyNext it) (fun r s₁ => match r with
      | none => R (.ok .next) s₁
      | some v => wpAny (model prog w) A (letOwnedTupleGo target it v) (fun _ s₁' => wpAny (model prog w) A (assign target env v) (fun _ s₂ =>
          wpAny (model prog w) A (forIn ifs true fun c r => if r = true then do let ok ← isTrue c env (eval c env); pure (ForInStep.yield ok) else pure (ForInStep.yield r)) (fun ok s₃ =>
            if ok = true then wpAny (model prog w) A (eval elt env) (fun x s₄ =>
              wpAny (model prog w) A (call (.builtin "list.append") [acc, x]) (fun _ s₅ => ∃ m, m < n ∧ I m s₅) (fun _ _ => False) s₄) (fun _ _ => False) s₃
            else ∃ m, m < n ∧ I m s₃) (fun _ _ => False) s₂) (fun _ _ => False) s₁') (fun _ _ => False) s₁) (fun _ _ => False) s)
    (n : Nat) (h : I n s) :
    codeAny (model prog w) A (.compLoop (.ListComp elt [⟨target, iter, ifs, 0⟩] scope pos) 0 it acc env) R s := by
  refine codeAny_loop rfl I (fun n s hI => ?_) n h
  show wpAny _ A ((compTurn (.ListComp elt [⟨target, iter, ifs, 0⟩] scope pos) 0 it acc env).onRaise (fun x => do noteFrame x env; theTreesLotGoes x)) _ _ s
  refine wpAny_noted ?_
  rw [compTurn_list]
  refine wpAny_bind (wpAny_standAt (wpAny_bind (wpAny_mono (turn n s hI) (fun r s₁ h₁ => ?_) fun _ _ h' => h'.elim)))
  cases r with
  | none => exact wpAny_pure h₁
  | some v =>
    refine wpAny_bind (wpAny_mono h₁ (fun _ s₁' h₁' => ?_) fun _ _ h' => h'.elim)
    refine wpAny_bind (wpAny_mono h₁' (fun _ s₂ h₂ => wpAny_bind (wpAny_mono h₂ (fun ok s₃ h₃ => ?_) fun _ _ h' => h'.elim)) fun _ _ h' => h'.elim)
    cases ok with
    | false => exact wpAny_pure ⟨rfl, h₃⟩
    | true =>
      exact wpAny_bind (wpAny_bind (wpAny_mono h₃ (fun x s₄ h₄ => wpAny_bind (wpAny_mono h₄ (fun _ s₅ h₅ => wpAny_pure (wpAny_pure ⟨rfl, h₅⟩)) fun _ _ h' => h'.elim)) fun _ _ h' => h'.elim))
def PN (X : Cx) (ifs : List Expr) (t : TT) : Prop :=
  ∀ (pins : List (Addr × Obj)) (s : Shared) (σ : St) (H : Hp) (Q : Bool → Hp → Prop), Inv X pins σ H s → t σ H Q →
    wpAny (model X.prog X.w) X.A (forIn ifs true fun c r => if r = true then do let ok ← isTrue c X.env (eval c X.env); pure (ForInStep.yield ok) else pure (ForInStep.yield r)) (TP X pins σ Q) X.xe s
def tYes : TT := fun _ H Q => Q true H
section
variable {X : Cx}
theorem pn_nil : PN X [] tYes := fun _ _ σ H Q I h => wpAny_pure ⟨H, I, h⟩
end
def compCx (X : Cx) (N : List Str) (scope : Scope) (C : Addr) (s : Shared) (H : Hp) (fp : List Addr) : Cx :=
  { X with N := N, s₀ := s, H₀ := H, env := compEnvC scope (closOf scope X.env) C X.env, outer := X.stack, stack := X.stack, ex := fp, fn := fun _ => false, pn := [], xe := fun _ _ => False }
structure CompBody (X : Cx) (tg : Expr) (ifs : List Expr) (elt : Expr) (g : TG) (tt : TT) (te : TE) : Prop where
  tg : PG X tg g
  tt : PN X ifs tt
  te : PE X elt te
def scB (sc xsc : Scope) : Bool := (sc.kind == .function) && sc.names.all fun x => (x.2 != .cell) && (x.2 != .local || sc.names.lookup x.1 == some .local) && (x.2 != .free || (xsc.names.lookup x.1 == some .cell) || (xsc.names.lookup x.1 == some .free))
def capB (cs : List Nat) (ns XN : List Str) (sc xsc : Scope) : Bool := (cs.zip ns).all fun p => (XN[p.1]? == some p.2) && (sc.names.lookup p.2 == some .free) && (xsc.names.lookup p.2 != some .local)
def capSt (nt : Nat) (cs : List Nat) (σ : St) : St := List.replicate nt none ++ cs.map fun c => (σ[c]?).join
def tComp (wi : TI) (nt : Nat) (cs : List Nat) (g : TG) (tt : TT) (te : TE) : TE := fun σ H Q => wi σ H fun J H1 => ∀ acc, H1 acc = none →
  ∃ W : Nat → Nat → List V → St → Hp → Prop, (∃ m, W 0 m [] (capSt nt cs σ) (upd H1 acc (.lst []))) ∧ ∀ i m ys σ' H', W i m ys σ' H' → H' acc = some (.lst ys) ∧
    ((J.stop i H' ∧ Q (.ref acc) H') ∨ (J.go i H' ∧ ys.length < sizeLine ∧ ∃ N : List V → St → Hp → Prop, (∀ zs σ2 H2, N zs σ2 H2 → ∃ m', m' < m ∧ W (i + 1) m' zs σ2 H2) ∧
      ∀ x H2, J.yld i H' x H2 → g x σ' H2 fun σ3 H3 => tt σ3 H3 fun b H4 => if b = true then te σ3 H4 fun y H5 => H5 acc = some (.lst ys) ∧ N (ys ++ [y]) σ3 (upd H5 acc (.lst (ys ++ [y]))) else N ys σ3 H4))
section
variable {X : Cx}
theorem compCx_inv {pins : List (Addr × Obj)} {σ : St} {H : Hp} {s : Shared} {N : List Str} {scope : Scope} {nt : Nat} {cs : List Nat} {fp : List Addr} {h1 : Heap} {tk : Nat} (I : Inv X pins σ H s)
    (hsc : scB scope X.env.scope = true) (hcap : capB cs (N.drop nt) X.N scope X.env.scope = true) (hlen : N.length = nt + cs.length)
    (hf : ∀ b ∈ fp, FpOk X pins H b) (hfl : ∀ b ∈ fp, b < s.heap.objs.size) (hn : h1.Ns s.heap.objs.size fun _ => none) (hk : ∀ b o, s.heap.get? b = some o → h1.get? b = some o) :
    Inv (compCx X N scope s.heap.objs.size s H fp) [] (capSt nt cs σ) H { s with heap := h1, toks := tk } := by
  unfold scB at hsc
  rw [Bool.and_eq_true] at hsc
  obtain ⟨hkd, hall⟩ := hsc
  have hkd : scope.kind = .function := by simpa using hkd
  rw [List.all_eq_true] at hall
  have nocell : ∀ x ∈ scope.names, x.2 ≠ .cell := fun x hx e => by have := hall x hx; rw [e] at this; simp at this
  have free2 : ∀ x, (x, NameKind.free) ∈ scope.names → X.env.kindOf x = some .cell ∨ X.env.kindOf x = some .free := fun x hx => by
    have := hall _ hx
    simp only [bne_self_eq_false, Bool.false_or, Bool.and_eq_true, Bool.or_eq_true, beq_iff_eq] at this
    exact this.2
  have kinds : ∀ x, ((compCx X N scope s.heap.objs.size s H fp).env.kindOf x = some .cell ∨ (compCx X N scope s.heap.objs.size s H fp).env.kindOf x = some .free) → (x, NameKind.free) ∈ scope.names := fun x hx => by
    have q : ∃ k, (relabel scope X.env).names.lookup x = some k ∧ (k = .cell ∨ k = .free) := by
      rcases hx with e | e
      · exact ⟨_, e, .inl rfl⟩
      · exact ⟨_, e, .inr rfl⟩
    obtain ⟨k, e, hk'⟩ := q
    obtain ⟨k0, e0, r⟩ := relabel_lookup e
    have m := PySem.mem_of_lookup e0
    rcases r with r | ⟨r, _⟩
    · subst r
      rcases hk' with z | z
      · exact absurd z (nocell _ m)
      · rw [z] at m; exact m
    · rw [r] at m; exact m
  have cellOf : ∀ x c, (closOf scope X.env).lookup x = some c → X.env.cells.lookup x = some c := fun x c e => mem_clos e
  have clt : ∀ x c, X.env.cells.lookup x = some c → c < s.heap.objs.size := fun x c e => by
    obtain ⟨v, q⟩ := I.cell x c e
    exact q.lt
  refine ⟨⟨I.ok.mod, ?_, I.ok.glob, I.ok.blt, Nat.le_refl _, ?_, ?_, ?_, I.ok.hd, I.ok.frames, .inl rfl, ?_, ?_, ?_, ?_, ?_, ?_, ?_⟩, rfl, I.bare, Un.kept hk, ⟨_, hn, ?_⟩, ?_, ?_, ?_, ?_, I.hok.kept hk, ?_⟩
  · show (relabel scope X.env).kind = _
    exact hkd
  · intro x y c e1 e2
    exact I.ok.inj x y c (cellOf x c e1) (cellOf y c e2)
  · intro x hx
    have m := kinds x hx
    obtain ⟨c, hc⟩ := I.ok.has x (free2 x m)
    exact ⟨c, clos_has m hc⟩
  · intro x c z
    cases z
  · intro b hb
    obtain ⟨f0, f1, f2, f3, f4, f5⟩ := hf b hb
    exact ⟨Nat.ne_of_lt (hfl b hb), fun x c e => f4 x c (cellOf x c e)⟩
  · intro b o e
    exact I.bs b o e
  · exact Nat.le_trans I.ok.bsz I.sz
  · intro b o e hb
    obtain ⟨f0, f1, f2, f3, f4, f5⟩ := hf b hb
    rcases f3 with z | z
    · exact I.ok.noex b o e z
    · exact absurd (Nat.lt_of_lt_of_le (Heap.lt_size (I.ok.bs b o e).1) z) (Nat.lt_irrefl _)
  · intro b hb hs
    obtain ⟨f0, f1, f2, f3, f4, f5⟩ := hf b hb
    rcases List.mem_cons.mp (I.stkSub b hs) with z | z
    · exact f1 z
    · exact f2 z
  · exact I.stack
  · exact I.stkFree
  · intro i x v e1 e2 _
    have hi : nt ≤ i := by
      refine Nat.le_of_not_lt fun z => ?_
      unfold capSt at e2
      rw [List.getElem?_append_left (by simpa using z), List.getElem?_replicate, if_pos z] at e2
      cases e2
    unfold capSt at e2
    rw [List.getElem?_append_right (by simpa using hi), List.length_replicate, List.getElem?_map] at e2
    cases q : cs[i - nt]? with
    | none => rw [q] at e2; cases e2
    | some c =>
      rw [q] at e2
      simp only [Option.map_some, Option.some.injEq] at e2
      have e3 : σ[c]? = some (some v) := by
        cases z : σ[c]? with
        | none => rw [z] at e2; cases e2
        | some o => rw [z] at e2; exact congrArg some e2
      unfold capB at hcap
      rw [List.all_eq_true] at hcap
      have e4 : (N.drop nt)[i - nt]? = some x := by
        rw [List.getElem?_drop, show nt + (i - nt) = i by omega]
        exact e1
      have m : (c, x) ∈ cs.zip (N.drop nt) := by
        have : (cs.zip (N.drop nt))[i - nt]? = some (c, x) := by rw [List.getElem?_zip_eq_some]; exact ⟨q, e4⟩
        exact List.mem_of_getElem? this
      have hm := hcap _ m
      simp only [Bool.and_eq_true, beq_iff_eq, bne_iff_ne, ne_eq] at hm
      obtain ⟨⟨h1', h2'⟩, h3'⟩ := hm
      have hlk : scope.names.lookup x = some .free := h2'
      have h2' : (x, NameKind.free) ∈ scope.names := PySem.mem_of_lookup hlk
      obtain ⟨mm, hmm, hl⟩ := I.loc
      have vis : Vis X.env.scope x := .inr (free2 x h2')
      obtain ⟨u, r, l⟩ := hl c x v h1' e3 vis
      rcases l with ⟨z, _⟩ | ⟨z, d, hd, hcell⟩
      · exact absurd z h3'
      · refine ⟨u, r, .inr ⟨?_, d, clos_has h2' hd, ?_⟩⟩
        · -- its kind in the block
          have isf : ∃ k, (relabel scope X.env).names.lookup x = some k := by
            have : ∃ k', (x, k') ∈ (relabel scope X.env).names := by
              unfold relabel
              by_cases cc : (X.env.scope.kind == .function && X.env.kindOf x == some .cell) = true
              · refine ⟨.cell, List.mem_map.mpr ⟨(x, .free), h2', ?_⟩⟩
                simp only [Bool.and_eq_true] at cc
                simp [cc.1, cc.2]
              · refine ⟨.free, List.mem_map.mpr ⟨(x, .free), h2', ?_⟩⟩
                simp only [Bool.and_eq_true] at cc
                have cc' : ¬ ((NameKind.free == NameKind.free && X.env.scope.kind == .function && X.env.kindOf x == some .cell) = true) := by
                  simp only [beq_self_eq_true, Bool.true_and, Bool.and_eq_true]
                  exact cc
                show (if (NameKind.free == NameKind.free && X.env.scope.kind == .function && X.env.kindOf x == some .cell) = true then (x, NameKind.cell) else (x, NameKind.free)) = (x, NameKind.free)
                rw [if_neg cc']
            obtain ⟨k', hk'⟩ := this
            exact lookup_mem hk'
          obtain ⟨k, ek⟩ := isf
          obtain ⟨k0, e0, rr⟩ := relabel_lookup ek
          rcases rr with rr | ⟨_, rr⟩
          · subst rr
            rw [hlk] at e0
            cases e0
            exact .inr ek
          · subst rr
            exact .inl ek
        · obtain ⟨o, ho, hd'⟩ := hcell
          exact ⟨o, hk _ _ ho, hd'⟩
  · intro x c e
    obtain ⟨v, o, ho, hd⟩ := I.cell x c (cellOf x c e)
    exact ⟨v, o, hk _ _ ho, hd⟩
  · exact I.hok.fresh (Nat.le_refl _)
  · intro x c e
    exact I.freeC x c (cellOf x c e)
  · intro p hp
    cases hp
  · show (capSt nt cs σ).length = N.length
    unfold capSt
    rw [List.length_append, List.length_replicate, List.length_map, hlen]
theorem un_same {fs ex : List Addr} {H H' : Hp} {h h1 h' : Heap} {C : Addr} (u : Un fs ex H H' h h1) (hs : Heap.SameBut C h1 h') (hC : h.objs.size ≤ C) : Un fs ex H H' h h' where
  keep := fun b o e n hb hx => (hs.2 b (Nat.ne_of_lt (Nat.lt_of_lt_of_le (Heap.lt_size e) hC))).trans (u.keep b o e n hb hx)
  slot := fun b o e n hb hx => by
    obtain ⟨sl, q⟩ := u.slot b o e n hb hx
    exact ⟨sl, (hs.2 b (Nat.ne_of_lt (Nat.lt_of_lt_of_le (Heap.lt_size e) hC))).trans q⟩
  free := u.free
  there := fun b o e hx => by
    obtain ⟨o', q⟩ := u.there b o e hx
    exact ⟨o', (hs.2 b (Nat.ne_of_lt (Nat.lt_of_lt_of_le (Heap.lt_size e) hC))).trans q⟩
  tups := u.tups
  frzs := u.frzs
  tbls := u.tbls
theorem hok_same {P : Program} {w : World} {H : Hp} {h h' : Heap} {C : Addr} (x : HOk P w H h) (hs : Heap.SameBut C h h') (hC : H C = none) : HOk P w H h' := fun b u e =>
  (x b u e).stay (fun c v hc q => (hs.2 c (fun z => by
    subst z
    rcases hc with z | z
    · subst z; rw [hC] at e; cases e
    · rw [hC] at z; cases z)).trans q) (fun _ q => q) fun _ _ q => q
theorem pe_comp0 {tg iter elt : Expr} {ifs : List Expr} {scope : Scope} {pos : Pos} {wi : TI} {N : List Str} {nt : Nat} {cs : List Nat} {g : TG} {tt : TT} {te : TE} (hc : X.calm = true) (hi : PI X tg iter wi)
    (hb : N.Nodup → ∀ (C : Addr) (s : Shared) (H : Hp) (fp : List Addr), CompBody (compCx X N scope C s H fp) tg ifs elt g tt te)
    (hnd : N.Nodup) (hsc : scB scope X.env.scope = true) (hcap : capB cs (N.drop nt) X.N scope X.env.scope = true) (hlen : N.length = nt + cs.length)
    (hs : ∀ x, foldedSetIterable iter X.env x = pure x) : PE X (.ListComp elt [⟨tg, iter, ifs, 0⟩] scope pos) (tComp wi nt cs g tt te) := by
  intro pins s σ H Q I h
  have hsc' := hsc
  unfold scB at hsc'
  rw [Bool.and_eq_true] at hsc'
  obtain ⟨hkd, hall⟩ := hsc'
  have hkd : scope.kind = .function := by simpa using hkd
  rw [List.all_eq_true] at hall
  have nocell : ∀ x ∈ scope.names, x.2 ≠ .cell := fun x hx e => by have := hall x hx; rw [e] at this; simp at this
  have hnames : ∀ x ∈ scope.names, x.2 = .local → scope.names.lookup x.1 = some .local := fun x hx e => by
    have := hall x hx
    rw [e] at this
    simp only [bne_self_eq_false, Bool.false_or, Bool.and_eq_true, beq_iff_eq] at this
    exact this.1.2
  have hclos : closureFor scope X.env = pure (closOf scope X.env) := closureFor_ok fun x hx e => by
    have := hall x hx
    rw [e] at this
    simp only [bne_self_eq_false, Bool.false_or, Bool.and_eq_true, Bool.or_eq_true, beq_iff_eq] at this
    exact I.ok.has x.1 this.2
  rw [eval_ListComp]
  refine wpAny_comprehension_free (use := none) rfl hs hclos hkd hnames (thn (hi pins s σ H _ I h) fun v s1 h1 => thn h1 fun itv s2 h2 => ?_)
  obtain ⟨it, fp, tn, J, H2, e, I2, T, st2, f2, hR⟩ := h2
  subst e
  refine wpAny_newObj_type (wpAny_newFunctionEnv nocell (by intro y hy; simp at hy) (fun h3 hn3 hs3 => ?_) hkd)
  have fr := I2.fresh
  have I3 : Inv X pins σ (upd H2 s2.heap.objs.size (.lst [])) { s2 with heap := s2.heap.push { cls := .type "list", data := .seq ([] : List Value).toArray }, toks := s2.toks } := I2.lnew .nil (le_size (by decide))
  obtain ⟨W, ⟨m0, w0⟩, turn⟩ := hR _ fr
  generalize hacc : s2.heap.objs.size = acc at *
  generalize hsx : ({ s2 with heap := s2.heap.push { cls := .type "list", data := .seq ([] : List Value).toArray }, toks := s2.toks } : Shared) = sx at *
  have hC : sx.heap.objs.size = acc + 1 := by rw [← hsx, ← hacc]; exact Heap.size_push _ _
  have fpl : ∀ b ∈ fp, b < acc := fun b hb => by
    obtain ⟨o, ho, _⟩ := T.obj _ _ st2 b hb
    rw [← hacc]
    exact Heap.lt_size ho
  have f3 : ∀ b ∈ fp, FpOk X pins (upd H2 acc (.lst [])) b := fun b hb => by
    obtain ⟨f0, f1⟩ := f2 b hb
    exact ⟨by rw [upd_ne (Nat.ne_of_lt (fpl b hb))]; exact f0, f1⟩
  have keep3 : ∀ b o, sx.heap.get? b = some o → h3.get? b = some o := fun b o e => by
    have hne : b ≠ sx.heap.objs.size := Nat.ne_of_lt (Heap.lt_size e)
    exact (hs3.2 b hne).trans (Heap.get?_push_of_some _ e)
  have IC : Inv (compCx X N scope sx.heap.objs.size sx (upd H2 acc (.lst [])) fp) [] (capSt nt cs σ) (upd H2 acc (.lst [])) { sx with heap := h3, toks := sx.toks + ([] : List (Str × Value)).length } :=
    compCx_inv I3 hsc hcap hlen f3 (fun b hb => by rw [hC]; exact Nat.lt_succ_of_lt (fpl b hb)) (by simpa using hn3) keep3
  have hn3' : H2 acc = none := fr
  generalize hXC : compCx X N scope sx.heap.objs.size sx (upd H2 acc (.lst [])) fp = XC at IC
  have ctxP : XC.prog = X.prog := by rw [← hXC]; rfl
  have ctxW : XC.w = X.w := by rw [← hXC]; rfl
  have ctxK : XC.K = X.K := by rw [← hXC]; rfl
  have ctxA : XC.A = X.A := by rw [← hXC]; rfl
  have ctxC : XC.calm = true := by rw [← hXC]; exact hc
  have ctxX : XC.xe = fun _ _ => False := by rw [← hXC]; rfl
  have ctxE : XC.env = compEnvC scope (closOf scope X.env) sx.heap.objs.size X.env := by rw [← hXC]; rfl
  have body : CompBody XC tg ifs elt g tt te := by rw [← hXC]; exact hb hnd _ _ _ _
  have st3 : tn 0 h3 := T.keep _ _ _ st2 fun b hb o e => keep3 b o (by rw [← hsx]; exact Heap.get?_push_of_some _ e)
  have stat : ∀ {H' : Hp}, (∀ b ∈ fp, H' b = none) → ∀ b ∈ fp, FpOk XC [] H' b := fun hn b hb => by
    obtain ⟨f0, f1, f2', f3', f4, f5⟩ := f3 b hb
    refine ⟨hn b hb, ?_, ?_, .inl (by rw [← hXC]; exact hb), fun x c e => ?_, fun p hp => ?_⟩
    · rw [ctxE]
      exact Nat.ne_of_lt (by rw [hC]; exact Nat.lt_succ_of_lt (fpl b hb))
    · rw [← hXC]
      intro z
      rcases List.mem_cons.mp (I3.stkSub b z) with z | z
      · exact f1 z
      · exact f2' z
    · rw [ctxE] at e
      exact f4 x c (mem_clos e)
    · rw [← hXC] at hp
      cases hp
  have fin : ∀ {σ' : St} {H' : Hp} {s' : Shared}, Inv XC [] σ' H' s' → Q (.ref acc) H' → compPost (model X.prog X.w) X.A X.xe none (EP X pins σ Q) (.ref acc) sx.heap.objs.size (.ok .next) s' := by
    intro σ' H' s' J' q
    obtain ⟨m, hm, _⟩ := J'.loc
    have hfree := J'.free
    rw [ctxE] at hm hfree
    refine ⟨m, hm, fun h' hs' => ⟨.ref acc, H', ?_, rfl, q⟩⟩
    have u := J'.base
    rw [← hXC] at u
    have ok := J'.hok
    rw [ctxP, ctxW] at ok
    have os := J'.os
    rw [← hXC] at os
    refine I3.call' (s' := { s' with heap := h' }) os (un_same u hs' (Nat.le_refl _)) (hok_same ok hs' hfree) J'.bare fun b hb => ?_
    obtain ⟨f0, f1, f2', f3', f4, f5⟩ := f3 b hb
    exact ⟨f3', f1, f4, f5⟩
  have loop : codeAny (model X.prog X.w) X.A (.compLoop (.ListComp elt [⟨tg, iter, ifs, 0⟩] scope pos) 0 (.ref it) (.ref acc) XC.env) (compPost (model X.prog X.w) X.A X.xe none (EP X pins σ Q) (.ref acc) sx.heap.objs.size)
      { sx with heap := h3, toks := sx.toks + ([] : List (Str × Value)).length } := by
    rw [← ctxP, ← ctxW, ← ctxA]
    refine codeAny_compLoop_gen (fun n s' => ∃ i ys σ' H', Inv XC [] σ' H' s' ∧ tn i s'.heap ∧ (∀ b ∈ fp, H' b = none) ∧ W i n ys σ' H') ?_ m0 ⟨0, [], _, _, IC, st3, fun b hb => (f3 b hb).1, w0⟩
    rintro n s3 ⟨i, ys, σ3, H3, I3', st3', fr3, w3⟩
    have T' := T
    rw [← ctxP, ← ctxW, ← ctxK] at T'
    obtain ⟨hacc3, alt⟩ := turn i n ys σ3 H3 w3
    rcases alt with ⟨stop, qn⟩ | ⟨go, hsz, NN, hNN, step⟩
    · refine thn (T'.done XC rfl rfl rfl ctxC i [] s3 σ3 H3 _ I3' (stat fr3) st3' stop) fun r s4 ⟨hr, I4⟩ => ?_
      subst hr
      rw [ctxP, ctxW, ctxA]
      exact fin I4 qn
    · refine thn (T'.item XC rfl rfl rfl ctxC i [] s3 σ3 H3 _ I3' (stat fr3) st3' go) fun r s4 ⟨u, hr, h4⟩ => ?_
      subst hr
      refine thn h4 fun _ s5 ⟨x, H5, I5, r5, y5, st5, fr5⟩ => ?_
      have I5' := I5.pinned (stat fr5) (T'.obj _ _ st5)
      have a1 := body.tg _ s5 σ3 H5 x u _ I5' r5 (step x H5 y5)
      rw [ctxX] at a1
      refine thn a1 fun _ s6 ⟨σ6, H6, I6, q6⟩ => ?_
      have a2 := body.tt _ s6 σ6 H6 _ I6 q6
      rw [ctxX] at a2
      refine thn a2 fun b s7 ⟨H7, I7, q7⟩ => ?_
      have again : ∀ {s8 : Shared} {σ7 : St} {H7 : Hp} {zs : List V}, Inv XC ([] ++ pinsAt fp s5.heap) σ7 H7 s8 → NN zs σ7 H7 → ∃ m, m < n ∧ ∃ i ys σ' H', Inv XC [] σ' H' s8 ∧ tn i s8.heap ∧ (∀ b ∈ fp, H' b = none) ∧ W i m ys σ' H' := fun {s8 σ7 H7 zs} I7 n7 => by
        obtain ⟨m', hm, w7⟩ := hNN zs σ7 H7 n7
        refine ⟨m', hm, i + 1, zs, σ7, H7, I7.unpinned, T'.keep _ _ _ st5 fun b hb o e => (I7.pin (b, o) (List.mem_append_right _ (List.mem_append_right _ (mem_pinsAt hb e)))).1, fun b hb => ?_, w7⟩
        obtain ⟨o, e, d⟩ := T'.obj _ _ st5 b hb
        exact (I7.pin (b, o) (List.mem_append_right _ (List.mem_append_right _ (mem_pinsAt hb e)))).2.1
      cases b with
      | false =>
        rw [if_neg Bool.false_ne_true] at q7 ⊢
        exact again I7 q7
      | true =>
        rw [if_pos rfl] at q7 ⊢
        have a3 := body.te _ s7 σ6 H7 _ I7 q7
        rw [ctxX] at a3
        refine thn a3 fun xv s8 ⟨y, H8, I8, r8, q8⟩ => ?_
        obtain ⟨hl8, n8⟩ := q8
        have a4 := mt_append (X := XC) _ s8 σ6 H8 (.ref acc) [y] (.ref acc) [xv] (fun _ H9 => NN (ys ++ [y]) σ6 H9) I8 rfl (.cons r8 .nil) ⟨acc, ys, y, rfl, rfl, hl8, hsz, n8⟩
        rw [ctxX] at a4
        refine thn a4 fun _ s9 ⟨_, H9, I9, _, q9⟩ => ?_
        exact again I9 q9
  rw [ctxE] at loop
  exact codeAny_compStart_list loop (T.self X.A 0 _ _ _ st3 loop)
theorem ps_setComp0 {y : Str} {py spos : Pos} {ix : Nat} {tg iter elt : Expr} {ifs : List Expr} {scope : Scope} {pos : Pos} {wi : TI} {N : List Str} {nt : Nat} {cs : List Nat} {g : TG} {tt : TT} {te : TE} (hc : X.calm = true) (hi : PI X tg iter wi)
    (hb : N.Nodup → ∀ (C : Addr) (s : Shared) (H : Hp) (fp : List Addr), CompBody (compCx X N scope C s H fp) tg ifs elt g tt te)
    (hnd : N.Nodup) (hsc : scB scope X.env.scope = true) (hcap : capB cs (N.drop nt) X.N scope X.env.scope = true) (hlen : N.length = nt + cs.length)
    (hs : ∀ x, foldedSetIterable iter X.env x = pure x) (hN : X.N.Nodup) (hix : X.N[ix]? = some y) (hy : Loc X.env.scope y) (hf : X.fn y = true ∨ X.env.scope.names.lookup y = some .local)
    (hsw : swapsWith (.ListComp elt [⟨tg, iter, ifs, 0⟩] scope pos) (some (.Name y py)) spos.line X.env = pure true) : PS X (.Assign [.Name y py] (.ListComp elt [⟨tg, iter, ifs, 0⟩] scope pos) spos) (tAsg (tComp wi nt cs g tt te) (gName ix)) := by
  intro pins s σ H D I h
  have hsc' := hsc
  unfold scB at hsc'
  rw [Bool.and_eq_true] at hsc'
  obtain ⟨hkd, hall⟩ := hsc'
  have hkd : scope.kind = .function := by simpa using hkd
  rw [List.all_eq_true] at hall
  have nocell : ∀ x ∈ scope.names, x.2 ≠ .cell := fun x hx e => by have := hall x hx; rw [e] at this; simp at this
  have hnames : ∀ x ∈ scope.names, x.2 = .local → scope.names.lookup x.1 = some .local := fun x hx e => by
    have := hall x hx
    rw [e] at this
    simp only [bne_self_eq_false, Bool.false_or, Bool.and_eq_true, beq_iff_eq] at this
    exact this.1.2
  have hclos : closureFor scope X.env = pure (closOf scope X.env) := closureFor_ok fun x hx e => by
    have := hall x hx
    rw [e] at this
    simp only [bne_self_eq_false, Bool.false_or, Bool.and_eq_true, Bool.or_eq_true, beq_iff_eq] at this
    exact I.ok.has x.1 this.2
  rw [exec_Assign_Name_used _ _ _ _ hsw]
  refine wpAny_bind (wpAny_standAt (wpAny_bind ?_))
  show wpAny _ X.A (do let _ ← comprehension (.ListComp elt [⟨tg, iter, ifs, 0⟩] scope pos) scope X.env _ (newList []) false (eval iter X.env) (some (assign (.Name y py) X.env))) _ _ s
  refine wpAny_bind (wpAny_mono (wpAny_comprehension_free (use := some (assign (.Name y py) X.env)) (Q := fun _ s' => SP X pins D .next s') rfl hs hclos hkd hnames
    (thn (hi pins s σ H _ I h) fun v s1 h1 => thn h1 fun itv s2 h2 => ?_)) (fun _ s' hq => wpAny_pure (wpAny_pure hq)) fun _ _ e => e)
  obtain ⟨it, fp, tn, J, H2, e, I2, T, st2, f2, hR⟩ := h2
  subst e
  refine wpAny_newObj_type (wpAny_newFunctionEnv nocell (by intro y hy; simp at hy) (fun h3 hn3 hs3 => ?_) hkd)
  have fr := I2.fresh
  have I3 : Inv X pins σ (upd H2 s2.heap.objs.size (.lst [])) { s2 with heap := s2.heap.push { cls := .type "list", data := .seq ([] : List Value).toArray }, toks := s2.toks } := I2.lnew .nil (le_size (by decide))
  obtain ⟨W, ⟨m0, w0⟩, turn⟩ := hR _ fr
  generalize hacc : s2.heap.objs.size = acc at *
  generalize hsx : ({ s2 with heap := s2.heap.push { cls := .type "list", data := .seq ([] : List Value).toArray }, toks := s2.toks } : Shared) = sx at *
  have hC : sx.heap.objs.size = acc + 1 := by rw [← hsx, ← hacc]; exact Heap.size_push _ _
  have fpl : ∀ b ∈ fp, b < acc := fun b hb => by
    obtain ⟨o, ho, _⟩ := T.obj _ _ st2 b hb
    rw [← hacc]
    exact Heap.lt_size ho
  have f3 : ∀ b ∈ fp, FpOk X pins (upd H2 acc (.lst [])) b := fun b hb => by
    obtain ⟨f0, f1⟩ := f2 b hb
    exact ⟨by rw [upd_ne (Nat.ne_of_lt (fpl b hb))]; exact f0, f1⟩
  have keep3 : ∀ b o, sx.heap.get? b = some o → h3.get? b = some o := fun b o e => by
    have hne : b ≠ sx.heap.objs.size := Nat.ne_of_lt (Heap.lt_size e)
    exact (hs3.2 b hne).trans (Heap.get?_push_of_some _ e)
  have IC : Inv (compCx X N scope sx.heap.objs.size sx (upd H2 acc (.lst [])) fp) [] (capSt nt cs σ) (upd H2 acc (.lst [])) { sx with heap := h3, toks := sx.toks + ([] : List (Str × Value)).length } :=
    compCx_inv I3 hsc hcap hlen f3 (fun b hb => by rw [hC]; exact Nat.lt_succ_of_lt (fpl b hb)) (by simpa using hn3) keep3
  have hn3' : H2 acc = none := fr
  generalize hXC : compCx X N scope sx.heap.objs.size sx (upd H2 acc (.lst [])) fp = XC at IC
  have ctxP : XC.prog = X.prog := by rw [← hXC]; rfl
  have ctxW : XC.w = X.w := by rw [← hXC]; rfl
  have ctxK : XC.K = X.K := by rw [← hXC]; rfl
  have ctxA : XC.A = X.A := by rw [← hXC]; rfl
  have ctxC : XC.calm = true := by rw [← hXC]; exact hc
  have ctxX : XC.xe = fun _ _ => False := by rw [← hXC]; rfl
  have ctxE : XC.env = compEnvC scope (closOf scope X.env) sx.heap.objs.size X.env := by rw [← hXC]; rfl
  have body : CompBody XC tg ifs elt g tt te := by rw [← hXC]; exact hb hnd _ _ _ _
  have st3 : tn 0 h3 := T.keep _ _ _ st2 fun b hb o e => keep3 b o (by rw [← hsx]; exact Heap.get?_push_of_some _ e)
  have stat : ∀ {H' : Hp}, (∀ b ∈ fp, H' b = none) → ∀ b ∈ fp, FpOk XC [] H' b := fun hn b hb => by
    obtain ⟨f0, f1, f2', f3', f4, f5⟩ := f3 b hb
    refine ⟨hn b hb, ?_, ?_, .inl (by rw [← hXC]; exact hb), fun x c e => ?_, fun p hp => ?_⟩
    · rw [ctxE]
      exact Nat.ne_of_lt (by rw [hC]; exact Nat.lt_succ_of_lt (fpl b hb))
    · rw [← hXC]
      intro z
      rcases List.mem_cons.mp (I3.stkSub b z) with z | z
      · exact f1 z
      · exact f2' z
    · rw [ctxE] at e
      exact f4 x c (mem_clos e)
    · rw [← hXC] at hp
      cases hp
  have fin : ∀ {σ' : St} {H' : Hp} {s' : Shared}, Inv XC [] σ' H' s' → D.nx (σ.set ix (some (.ref acc))) H' → compPost (model X.prog X.w) X.A X.xe (some (assign (.Name y py) X.env)) (fun _ s' => SP X pins D .next s') (.ref acc) sx.heap.objs.size (.ok .next) s' := by
    intro σ' H' s' J' q
    obtain ⟨m, hm, _⟩ := J'.loc
    have hfree := J'.free
    rw [ctxE] at hm hfree
    have u := J'.base
    rw [← hXC] at u
    have ok := J'.hok
    rw [ctxP, ctxW] at ok
    have os := J'.os
    rw [← hXC] at os
    have IX : Inv X pins σ H' s' := I3.call' os u ok J'.bare fun b hb => by
      obtain ⟨f0, f1, f2', f3', f4, f5⟩ := f3 b hb
      exact ⟨f3', f1, f4, f5⟩
    have hCL : sx.heap.objs.size ≠ X.env.locals := Nat.ne_of_gt I3.lt
    have hCc : ∀ x c, X.env.cells.lookup x = some c → c ≠ sx.heap.objs.size := fun x c e => by
      obtain ⟨v, z⟩ := I3.cell x c e
      exact Nat.ne_of_lt z.lt
    have hCp : ∀ p ∈ X.pn ++ pins, p.1 ≠ sx.heap.objs.size := fun p hp => Nat.ne_of_lt (Heap.lt_size (I3.pin p hp).1)
    show wpAny _ X.A (assign (.Name y py) X.env (.ref acc)) _ _ s'
    refine wpAny_assign_Name (store_ok2 IX hN hix hy (v := .ref acc) rfl (fun s'' I'' ⟨a, hsb, ha⟩ => ?_) hf)
    have hCa : sx.heap.objs.size ≠ a := fun z => by
      rcases ha with e | e
      · exact hCL (z.trans e)
      · exact hCc _ _ e z.symm
    refine ⟨m, hm.sameBut hsb hCa, fun h' hs' => ⟨_, H', ?_, q⟩⟩
    exact I''.turned (t' := s''.toks) (fun b o hb e => (hs'.2 b hb).trans e) hfree hCL (.inr I3.sz) hCc hCp
  have loop : codeAny (model X.prog X.w) X.A (.compLoop (.ListComp elt [⟨tg, iter, ifs, 0⟩] scope pos) 0 (.ref it) (.ref acc) XC.env) (compPost (model X.prog X.w) X.A X.xe (some (assign (.Name y py) X.env)) (fun _ s' => SP X pins D .next s') (.ref acc) sx.heap.objs.size)
      { sx with heap := h3, toks := sx.toks + ([] : List (Str × Value)).length } := by
    rw [← ctxP, ← ctxW, ← ctxA]
    refine codeAny_compLoop_gen (fun n s' => ∃ i ys σ' H', Inv XC [] σ' H' s' ∧ tn i s'.heap ∧ (∀ b ∈ fp, H' b = none) ∧ W i n ys σ' H') ?_ m0 ⟨0, [], _, _, IC, st3, fun b hb => (f3 b hb).1, w0⟩
    rintro n s3 ⟨i, ys, σ3, H3, I3', st3', fr3, w3⟩
    have T' := T
    rw [← ctxP, ← ctxW, ← ctxK] at T'
    obtain ⟨hacc3, alt⟩ := turn i n ys σ3 H3 w3
    rcases alt with ⟨stop, qn⟩ | ⟨go, hsz, NN, hNN, step⟩
    · refine thn (T'.done XC rfl rfl rfl ctxC i [] s3 σ3 H3 _ I3' (stat fr3) st3' stop) fun r s4 ⟨hr, I4⟩ => ?_
      subst hr
      rw [ctxP, ctxW, ctxA]
      exact fin I4 qn
    · refine thn (T'.item XC rfl rfl rfl ctxC i [] s3 σ3 H3 _ I3' (stat fr3) st3' go) fun r s4 ⟨u, hr, h4⟩ => ?_
      subst hr
      refine thn h4 fun _ s5 ⟨x, H5, I5, r5, y5, st5, fr5⟩ => ?_
      have I5' := I5.pinned (stat fr5) (T'.obj _ _ st5)
      have a1 := body.tg _ s5 σ3 H5 x u _ I5' r5 (step x H5 y5)
      rw [ctxX] at a1
      refine thn a1 fun _ s6 ⟨σ6, H6, I6, q6⟩ => ?_
      have a2 := body.tt _ s6 σ6 H6 _ I6 q6
      rw [ctxX] at a2
      refine thn a2 fun b s7 ⟨H7, I7, q7⟩ => ?_
      have again : ∀ {s8 : Shared} {σ7 : St} {H7 : Hp} {zs : List V}, Inv XC ([] ++ pinsAt fp s5.heap) σ7 H7 s8 → NN zs σ7 H7 → ∃ m, m < n ∧ ∃ i ys σ' H', Inv XC [] σ' H' s8 ∧ tn i s8.heap ∧ (∀ b ∈ fp, H' b = none) ∧ W i m ys σ' H' := fun {s8 σ7 H7 zs} I7 n7 => by
        obtain ⟨m', hm, w7⟩ := hNN zs σ7 H7 n7
        refine ⟨m', hm, i + 1, zs, σ7, H7, I7.unpinned, T'.keep _ _ _ st5 fun b hb o e => (I7.pin (b, o) (List.mem_append_right _ (List.mem_append_right _ (mem_pinsAt hb e)))).1, fun b hb => ?_, w7⟩
        obtain ⟨o, e, d⟩ := T'.obj _ _ st5 b hb
        exact (I7.pin (b, o) (List.mem_append_right _ (List.mem_append_right _ (mem_pinsAt hb e)))).2.1
      cases b with
      | false =>
        rw [if_neg Bool.false_ne_true] at q7 ⊢
        exact again I7 q7
      | true =>
        rw [if_pos rfl] at q7 ⊢
        have a3 := body.te _ s7 σ6 H7 _ I7 q7
        rw [ctxX] at a3
        refine thn a3 fun xv s8 ⟨y, H8, I8, r8, q8⟩ => ?_
        obtain ⟨hl8, n8⟩ := q8
        have a4 := mt_append (X := XC) _ s8 σ6 H8 (.ref acc) [y] (.ref acc) [xv] (fun _ H9 => NN (ys ++ [y]) σ6 H9) I8 rfl (.cons r8 .nil) ⟨acc, ys, y, rfl, rfl, hl8, hsz, n8⟩
        rw [ctxX] at a4
        refine thn a4 fun _ s9 ⟨_, H9, I9, _, q9⟩ => ?_
        exact again I9 q9
  rw [ctxE] at loop
  exact codeAny_compStart_list loop (T.self X.A 0 _ _ _ st3 loop)
end
end L2
set_option Elab.async false
set_option linter.all false
set_option maxRecDepth 100000
set_option maxHeartbeats 1000000
namespace L2
open PySem PySem.Spec PyProof.Rows
inductive Dt where
  | f (x : V)
  | l (xs : List Dt)
  | t (xs : List Dt)
mutual
def Is (K : PySem.W.Frag) (H : Hp) (x : V) : Dt → Prop
  | .f y => x = y ∧ flatV y = true
  | .l ds => ∃ p xs, x = .ref p ∧ SqL K H p xs ∧ IsL K H xs ds
  | .t ds => ∃ p xs, x = .ref p ∧ SqT K H p xs ∧ IsL K H xs ds
def IsL (K : PySem.W.Frag) (H : Hp) (xs : List V) : List Dt → Prop
  | [] => xs = []
  | d :: ds => ∃ x r, xs = x :: r ∧ Is K H x d ∧ IsL K H r ds
end
mutual
def deq : Dt → Dt → Bool
  | .f x, .f y => eqV x y
  | .l xs, .l ys => deqL xs ys
  | .t xs, .t ys => deqL xs ys
  | _, _ => false
def deqL : List Dt → List Dt → Bool
  | [], [] => true
  | x :: xs, y :: ys => deq x y && deqL xs ys
  | _, _ => false
end
mutual
def dep : Dt → Nat
  | .f _ => 0
  | .l xs => depL xs + 1
  | .t xs => depL xs + 1
def depL : List Dt → Nat
  | [] => 0
  | d :: ds => max (dep d) (depL ds)
end
theorem IsL.len {K : PySem.W.Frag} {H : Hp} : ∀ {ds : List Dt} {xs : List V}, IsL K H xs ds → xs.length = ds.length
  | [], xs, h => by rw [IsL] at h; subst h; rfl
  | d :: ds, xs, h => by
    rw [IsL] at h
    obtain ⟨x, r, rfl, _, h⟩ := h
    rw [List.length_cons, List.length_cons, IsL.len h]
theorem IsL.get {K : PySem.W.Frag} {H : Hp} : ∀ {ds : List Dt} {xs : List V} {j : Nat} {x : V}, IsL K H xs ds → xs[j]? = some x → ∃ d, ds[j]? = some d ∧ Is K H x d
  | [], xs, j, x, h, e => by rw [IsL] at h; subst h; simp at e
  | d :: ds, xs, j, x, h, e => by
    rw [IsL] at h
    obtain ⟨y, r, rfl, hy, h⟩ := h
    cases j with
    | zero => simp at e; subst e; exact ⟨d, rfl, hy⟩
    | succ j => exact IsL.get (j := j) h (by simpa using e)
theorem depL_mem {ds : List Dt} : ∀ {d : Dt} {j : Nat}, ds[j]? = some d → dep d ≤ depL ds := by
  induction ds with
  | nil => intro d j e; simp at e
  | cons a r ih =>
    intro d j e
    rw [depL]
    cases j with
    | zero => simp at e; subst e; omega
    | succ j => have := ih (d := d) (j := j) (by simpa using e); omega
mutual
theorem deq_refl : ∀ (d : Dt) {K : PySem.W.Frag} {H : Hp} {x : V}, Is K H x d → deq d d = true
  | .f y, K, H, x, h => by
    rw [Is] at h
    rw [deq]
    have hy := h.2
    cases y <;> first | (simp [eqV]; done) | (exact absurd hy (by decide)) | (cases hy)
  | .l ds, K, H, x, h => by
    rw [Is] at h
    obtain ⟨p, xs, _, _, h⟩ := h
    rw [deq]
    exact deqL_refl ds h
  | .t ds, K, H, x, h => by
    rw [Is] at h
    obtain ⟨p, xs, _, _, h⟩ := h
    rw [deq]
    exact deqL_refl ds h
theorem deqL_refl : ∀ (ds : List Dt) {K : PySem.W.Frag} {H : Hp} {xs : List V}, IsL K H xs ds → deqL ds ds = true
  | [], _, _, _, _ => by rw [deqL]
  | d :: ds, K, H, xs, h => by
    rw [IsL] at h
    obtain ⟨y, r, _, hy, h⟩ := h
    rw [deqL, deq_refl d hy, deqL_refl ds h]
    rfl
end
theorem deqL_get : ∀ {ds es : List Dt}, deqL ds es = (decide (ds.length = es.length) && (List.range ds.length).all fun j => match ds[j]?, es[j]? with | some d, some e => deq d e | _, _ => false)
  | [], [] => by simp [deqL]
  | [], e :: es => by simp [deqL]
  | d :: ds, [] => by simp [deqL]
  | d :: ds, e :: es => by
    rw [deqL, deqL_get]
    have r : List.range (d :: ds).length = 0 :: (List.range ds.length).map (· + 1) := by rw [List.length_cons, List.range_succ_eq_map]
    rw [r, List.all_cons, List.all_map]
    simp only [List.getElem?_cons_zero, List.length_cons, Nat.add_right_cancel_iff]
    have c : ((fun j => match (d :: ds)[j]?, (e :: es)[j]? with | some d, some e => deq d e | _, _ => false) ∘ fun x => x + 1) = (fun j => match ds[j]?, es[j]? with | some d, some e => deq d e | _, _ => false) := by
      funext j
      simp
    rw [c]
    cases deq d e <;> cases decide (ds.length = es.length) <;> rfl
section
variable {X : Cx} {pins : List (Addr × Obj)} {σ : St} {H : Hp} {s : Shared}
mutual
theorem Is.inj : ∀ (d : Dt) {e : Dt} {x : V}, Inv X pins σ H s → Is X.K H x d → Is X.K H x e → (∀ p xs ys, SqL X.K H p xs → ¬ SqT X.K H p ys) → d = e
  | .f y, e, x, I, h, h', hk => by
    rw [Is] at h
    obtain ⟨rfl, hy⟩ := h
    cases e with
    | f z => rw [Is] at h'; rw [h'.1]
    | l ds => rw [Is] at h'; obtain ⟨p, xs, e, _⟩ := h'; subst e; cases hy
    | t ds => rw [Is] at h'; obtain ⟨p, xs, e, _⟩ := h'; subst e; cases hy
  | .l ds, e, x, I, h, h', hk => by
    rw [Is] at h
    obtain ⟨p, xs, rfl, hs, h⟩ := h
    cases e with
    | f z => rw [Is] at h'; obtain ⟨e, hz⟩ := h'; subst e; cases hz
    | l es =>
      rw [Is] at h'
      obtain ⟨q, ys, e, hs', h'⟩ := h'
      cases e
      rw [I.list_inj hs' hs] at h'
      rw [IsL.inj ds I h h' hk]
    | t es =>
      rw [Is] at h'
      obtain ⟨q, ys, e, hs', h'⟩ := h'
      cases e
      exact absurd hs' (hk _ _ _ hs)
  | .t ds, e, x, I, h, h', hk => by
    rw [Is] at h
    obtain ⟨p, xs, rfl, hs, h⟩ := h
    cases e with
    | f z => rw [Is] at h'; obtain ⟨e, hz⟩ := h'; subst e; cases hz
    | l es =>
      rw [Is] at h'
      obtain ⟨q, ys, e, hs', h'⟩ := h'
      cases e
      exact absurd hs (hk _ _ _ hs')
    | t es =>
      rw [Is] at h'
      obtain ⟨q, ys, e, hs', h'⟩ := h'
      cases e
      rw [I.tuple_inj hs' hs] at h'
      rw [IsL.inj ds I h h' hk]
theorem IsL.inj : ∀ (ds : List Dt) {es : List Dt} {xs : List V}, Inv X pins σ H s → IsL X.K H xs ds → IsL X.K H xs es → (∀ p xs ys, SqL X.K H p xs → ¬ SqT X.K H p ys) → ds = es
  | [], es, xs, I, h, h', hk => by
    rw [IsL] at h
    subst h
    cases es with
    | nil => rfl
    | cons e es => rw [IsL] at h'; obtain ⟨_, _, e, _⟩ := h'; cases e
  | d :: ds, es, xs, I, h, h', hk => by
    rw [IsL] at h
    obtain ⟨y, r, rfl, hy, h⟩ := h
    cases es with
    | nil => rw [IsL] at h'; cases h'
    | cons e es =>
      rw [IsL] at h'
      obtain ⟨y', r', e1, hy', h'⟩ := h'
      cases e1
      rw [Is.inj d I hy hy' hk, IsL.inj ds I h h' hk]
end
theorem Inv.apart (I : Inv X pins σ H s) : ∀ p xs ys, SqL X.K H p xs → ¬ SqT X.K H p ys := fun p xs ys h h' => by
  obtain ⟨its, _, ⟨o, n, e, c, _⟩, _⟩ := I.list h
  obtain ⟨its', _, ⟨o', e', c', _⟩, _⟩ := I.tuple h'
  rw [e] at e'
  cases e'
  rw [c] at c'
  exact absurd c' (by decide)
theorem eqAt_F {x : V} (e : Dt) {A : Around} {y : V} {u v : Value} (hu : A.units < cLine) (I : Inv X pins σ H s) (fx : flatV x = true) (hy : Is X.K H y e) (rx : RelV x u) (ry : RelV y v) : SeqAt.EqAt A s u v (deq (.f x) e) := by
  cases e with
  | f y' =>
    rw [Is] at hy
    obtain ⟨rfl, fy⟩ := hy
    rw [deq]
    exact eqAt_V rx ry fx fy
  | l ds =>
    rw [Is] at hy
    obtain ⟨p, ys, rfl, hs, _⟩ := hy
    cases ry
    obtain ⟨its, _, pl, _⟩ := I.list hs
    have hl := pl.isList
    rw [show deq (.f x) (.l ds) = false by rw [deq]; all_goals (intros; simp_all)]
    cases x with
    | non => cases rx; exact SeqAt.EqAt.none_list hl hu
    | bl b => cases rx; exact SeqAt.EqAt.bool_list b hl hu
    | int i => obtain ⟨t, rfl⟩ := rx; exact SeqAt.EqAt.int_list i t hl hu
    | str z => obtain ⟨t, rfl⟩ := rx; exact SeqAt.EqAt.str_list z t hl hu
    | _ => cases fx
  | t ds =>
    rw [Is] at hy
    obtain ⟨p, ys, rfl, hs, _⟩ := hy
    cases ry
    obtain ⟨its, _, pl, _⟩ := I.tuple hs
    have hl : s.heap.IsTuple p its.toArray := pl
    rw [show deq (.f x) (.t ds) = false by rw [deq]; all_goals (intros; simp_all)]
    cases x with
    | non => cases rx; exact SeqAt.EqAt.none_tuple hl hu
    | bl b => cases rx; exact SeqAt.EqAt.bool_tuple b hl hu
    | int i => obtain ⟨t, rfl⟩ := rx; exact SeqAt.EqAt.int_tuple i t hl hu
    | str z => obtain ⟨t, rfl⟩ := rx; exact SeqAt.EqAt.str_tuple z t hl hu
    | _ => cases fx
def deqAt (ds es : List Dt) (j : Nat) : Bool := match ds[j]?, es[j]? with | some d, some e => deq d e | _, _ => false
theorem elems {n : Nat} {A : Around} (ih : ∀ (d e : Dt) {A : Around} {x y : V} {u v : Value}, dep d ≤ n → A.units + n < cLine → Inv X pins σ H s → Is X.K H x d → Is X.K H y e → RelV x u → RelV y v → SeqAt.EqAt A s u v (deq d e)) (hu : A.units + (n + 1) < cLine) (I : Inv X pins σ H s)
    {ds es : List Dt} {xs ys : List V} {its its' : List Value} (hd : depL ds ≤ n) (hx : IsL X.K H xs ds) (hy : IsL X.K H ys es) (rx : Vals xs its) (ry : Vals ys its') :
    ∀ j (h1 : j < its.toArray.size) (h2 : j < its'.toArray.size), SeqAt.EqAt A.in1 s its.toArray[j] its'.toArray[j] (deqAt ds es j) := by
  intro j h1 h2
  have l1 := rx.length
  have l2 := ry.length
  have k1 : j < xs.length := by simpa [l1] using h1
  have k2 : j < ys.length := by simpa [l2] using h2
  obtain ⟨d, e1, q1⟩ := hx.get (List.getElem?_eq_getElem k1)
  obtain ⟨e, e2, q2⟩ := hy.get (List.getElem?_eq_getElem k2)
  obtain ⟨u, hu', ru⟩ := rx.get (List.getElem?_eq_getElem k1)
  obtain ⟨v, hv', rv⟩ := ry.get (List.getElem?_eq_getElem k2)
  have f1 : its.toArray[j] = u := by
    have : its[j]? = some its.toArray[j] := by simp
    rw [hu'] at this
    exact (Option.some.inj this).symm
  have f2 : its'.toArray[j] = v := by
    have : its'[j]? = some its'.toArray[j] := by simp
    rw [hv'] at this
    exact (Option.some.inj this).symm
  rw [f1, f2]
  unfold deqAt
  rw [e1, e2]
  exact ih d e (Nat.le_trans (depL_mem e1) hd) (by rw [Around.in1_units]; omega) I q1 q2 ru rv
theorem all_deqAt {ds es : List Dt} (h : ds.length = es.length) : (List.range ds.length).all (deqAt ds es) = deqL ds es := by
  rw [deqL_get, decide_eq_true h, Bool.true_and]
  rfl
theorem deqL_ne {ds es : List Dt} (h : ds.length ≠ es.length) : deqL ds es = false := by
  rw [deqL_get, decide_eq_false h, Bool.false_and]
theorem rcAt_D : ∀ (n : Nat) (d e : Dt) {A : Around} {x y : V} {u v : Value}, dep d ≤ n → A.units + n < cLine → Inv X pins σ H s → Is X.K H x d → Is X.K H y e → RelV x u → RelV y v → SeqAt.EqAt A s u v (deq d e) ∧ (∀ p, x = .ref p → SeqAt.RcAt A s u v (deq d e))
  | n, .f x', e, A, x, y, u, v, hn, hu, I, hx, hy, rx, ry => by
    rw [Is] at hx
    obtain ⟨rfl, fx⟩ := hx
    exact ⟨eqAt_F e (by omega) I fx hy rx ry, fun p e => by subst e; cases fx⟩
  | 0, .l ds, e, A, x, y, u, v, hn, hu, I, hx, hy, rx, ry => by rw [dep] at hn; omega
  | 0, .t ds, e, A, x, y, u, v, hn, hu, I, hx, hy, rx, ry => by rw [dep] at hn; omega
  | n + 1, .l ds, e, A, x, y, u, v, hn, hu, I, hx, hy, rx, ry => by
    rw [dep] at hn
    have hx0 := hx
    rw [Is] at hx
    obtain ⟨p, xs, rfl, hs, hxs⟩ := hx
    cases rx
    obtain ⟨its, rv, pl, _⟩ := I.list hs
    have hl := pl.isList
    have hu' : A.units < cLine := by omega
    have ih := fun (d e : Dt) {A : Around} {x y : V} {u v : Value} (a : dep d ≤ n) (b : A.units + n < cLine) (c : Inv X pins σ H s) (f : Is X.K H x d) (g : Is X.K H y e) (h : RelV x u) (i : RelV y v) => (rcAt_D n d e a b c f g h i).1
    cases e with
    | f y' =>
      rw [Is] at hy
      obtain ⟨rfl, fy⟩ := hy
      rw [show deq (.l ds) (.f y) = false by rw [deq]; all_goals (intros; simp_all)]
      cases y with
      | non => cases ry; exact ⟨SeqAt.EqAt.list_none hl hu', fun _ _ => SeqAt.RcAt.list_none hl hu'⟩
      | bl b => cases ry; exact ⟨SeqAt.EqAt.list_bool b hl hu', fun _ _ => SeqAt.RcAt.list_bool b hl hu'⟩
      | int i => obtain ⟨t, rfl⟩ := ry; exact ⟨SeqAt.EqAt.list_int i t hl hu', fun _ _ => SeqAt.RcAt.list_int i t hl hu'⟩
      | str z => obtain ⟨t, rfl⟩ := ry; exact ⟨SeqAt.EqAt.list_str z t hl hu', fun _ _ => SeqAt.RcAt.list_str z t hl hu'⟩
      | _ => cases fy
    | l es =>
      have hy0 := hy
      rw [Is] at hy
      obtain ⟨q, ys, rfl, hs', hys⟩ := hy
      cases ry
      obtain ⟨its', rv', pl', _⟩ := I.list hs'
      have hl' := pl'.isList
      have e1 : its.toArray.size = ds.length := by rw [List.size_toArray, ← rv.length, hxs.len]
      have e2 : its'.toArray.size = es.length := by rw [List.size_toArray, ← rv'.length, hys.len]
      have rc : SeqAt.RcAt A s (.ref p) (.ref q) (deq (.l ds) (.l es)) := by
        rw [deq]
        by_cases hz : ds.length = es.length
        · have := SeqAt.RcAt.lists hl hl' (by omega) hu' (elems ih hu I (by omega) hxs hys rv rv')
          rw [e1, all_deqAt hz] at this
          exact this
        · rw [deqL_ne hz]
          exact SeqAt.RcAt.lists_lengths hl hl' (by rw [bne_iff_ne]; omega) hu'
      refine ⟨?_, fun _ _ => rc⟩
      by_cases hpq : p = q
      · subst hpq
        have := Is.inj _ I hx0 hy0 I.apart
        rw [← this, deq_refl _ hx0]
        exact SeqAt.EqAt.same _
      · exact SeqAt.EqAt.of_refs hpq rc
    | t es =>
      rw [Is] at hy
      obtain ⟨q, ys, rfl, hs', hys⟩ := hy
      cases ry
      obtain ⟨its', rv', pl', _⟩ := I.tuple hs'
      have hl' : s.heap.IsTuple q its'.toArray := pl'
      rw [show deq (.l ds) (.t es) = false by rw [deq]; all_goals (intros; simp_all)]
      exact ⟨SeqAt.EqAt.list_tuple hl hl' hu', fun _ _ => SeqAt.RcAt.list_tuple hl hl' hu'⟩
  | n + 1, .t ds, e, A, x, y, u, v, hn, hu, I, hx, hy, rx, ry => by
    rw [dep] at hn
    have hx0 := hx
    rw [Is] at hx
    obtain ⟨p, xs, rfl, hs, hxs⟩ := hx
    cases rx
    obtain ⟨its, rv, pl, _⟩ := I.tuple hs
    have hl : s.heap.IsTuple p its.toArray := pl
    have hu' : A.units < cLine := by omega
    have ih := fun (d e : Dt) {A : Around} {x y : V} {u v : Value} (a : dep d ≤ n) (b : A.units + n < cLine) (c : Inv X pins σ H s) (f : Is X.K H x d) (g : Is X.K H y e) (h : RelV x u) (i : RelV y v) => (rcAt_D n d e a b c f g h i).1
    cases e with
    | f y' =>
      rw [Is] at hy
      obtain ⟨rfl, fy⟩ := hy
      rw [show deq (.t ds) (.f y) = false by rw [deq]; all_goals (intros; simp_all)]
      cases y with
      | non => cases ry; exact ⟨SeqAt.EqAt.tuple_none hl hu', fun _ _ => SeqAt.RcAt.tuple_none hl hu'⟩
      | bl b => cases ry; exact ⟨SeqAt.EqAt.tuple_bool b hl hu', fun _ _ => SeqAt.RcAt.tuple_bool b hl hu'⟩
      | int i => obtain ⟨t, rfl⟩ := ry; exact ⟨SeqAt.EqAt.tuple_int i t hl hu', fun _ _ => SeqAt.RcAt.tuple_int i t hl hu'⟩
      | str z => obtain ⟨t, rfl⟩ := ry; exact ⟨SeqAt.EqAt.tuple_str z t hl hu', fun _ _ => SeqAt.RcAt.tuple_str z t hl hu'⟩
      | _ => cases fy
    | l es =>
      rw [Is] at hy
      obtain ⟨q, ys, rfl, hs', hys⟩ := hy
      cases ry
      obtain ⟨its', rv', pl', _⟩ := I.list hs'
      have hl' := pl'.isList
      rw [show deq (.t ds) (.l es) = false by rw [deq]; all_goals (intros; simp_all)]
      exact ⟨SeqAt.EqAt.tuple_list hl hl' hu', fun _ _ => SeqAt.RcAt.tuple_list hl hl' hu'⟩
    | t es =>
      have hy0 := hy
      rw [Is] at hy
      obtain ⟨q, ys, rfl, hs', hys⟩ := hy
      cases ry
      obtain ⟨its', rv', pl', _⟩ := I.tuple hs'
      have hl' : s.heap.IsTuple q its'.toArray := pl'
      have e1 : its.toArray.size = ds.length := by rw [List.size_toArray, ← rv.length, hxs.len]
      have e2 : its'.toArray.size = es.length := by rw [List.size_toArray, ← rv'.length, hys.len]
      have rc : SeqAt.RcAt A s (.ref p) (.ref q) (deq (.t ds) (.t es)) := by
        rw [deq]
        have := SeqAt.RcAt.tuples hl hl' hu' (elems ih hu I (by omega) hxs hys rv rv')
        rw [e1, e2] at this
        by_cases hz : ds.length = es.length
        · rw [← hz, Nat.min_self, all_deqAt hz, beq_self_eq_true, Bool.and_true] at this
          exact this
        · rw [deqL_ne hz]
          have : (ds.length == es.length) = false := by simpa using hz
          simp_all
      refine ⟨?_, fun _ _ => rc⟩
      by_cases hpq : p = q
      · subst hpq
        have := Is.inj _ I hx0 hy0 I.apart
        rw [← this, deq_refl _ hx0]
        exact SeqAt.EqAt.same _
      · exact SeqAt.EqAt.of_refs hpq rc
end
def rNeD (K : PySem.W.Frag) : R2 := fun x y H Q => ∃ p d e, x = .ref p ∧ Is K H x d ∧ Is K H y e ∧ dep d ≤ 50 ∧ Q (.bl (!deq d e)) H
section
variable {X : Cx}
end
end L2
set_option Elab.async false
set_option linter.all false
set_option maxRecDepth 100000
set_option maxHeartbeats 1000000
namespace L2
open PySem PySem.Spec PyProof.Rows
section
variable {X : Cx} {pins : List (Addr × Obj)} {σ : St} {H : Hp} {s : Shared}
theorem ih50 (n : Nat) (d e : Dt) {A : Around} {x y : V} {u v : Value} (a : dep d ≤ n) (b : A.units + n < cLine) (c : Inv X pins σ H s) (f : Is X.K H x d) (g : Is X.K H y e) (h : RelV x u) (i : RelV y v) : SeqAt.EqAt A s u v (deq d e) := (rcAt_D n d e a b c f g h i).1
theorem neAt_D (n : Nat) (d e : Dt) {A : Around} {p : Addr} {y : V} {v : Value} (hn : dep d ≤ n + 1) (hu : A.units + (n + 1) < cLine) (I : Inv X pins σ H s) (hx : Is X.K H (.ref p) d) (hy : Is X.K H y e) (ry : RelV y v) : SeqAt.RcNeAt A s (.ref p) v (!deq d e) := by
  have hu' : A.units < cLine := by omega
  cases d with
  | f x => rw [Is] at hx; obtain ⟨e, hz⟩ := hx; subst e; cases hz
  | l ds =>
    rw [dep] at hn
    rw [Is] at hx
    obtain ⟨p', xs, e0, hs, hxs⟩ := hx
    cases e0
    obtain ⟨its, rv, pl, _⟩ := I.list hs
    have hl := pl.isList
    cases e with
    | f y' =>
      rw [Is] at hy
      obtain ⟨rfl, fy⟩ := hy
      rw [show deq (.l ds) (.f y) = false by rw [deq]; all_goals (intros; simp_all)]
      cases y with
      | non => cases ry; exact SeqAt.RcNeAt.list_none hl hu'
      | bl b => cases ry; exact SeqAt.RcNeAt.list_bool b hl hu'
      | int i => obtain ⟨t, rfl⟩ := ry; exact SeqAt.RcNeAt.list_int i t hl hu'
      | str z => obtain ⟨t, rfl⟩ := ry; exact SeqAt.RcNeAt.list_str z t hl hu'
      | _ => cases fy
    | l es =>
      rw [Is] at hy
      obtain ⟨q, ys, rfl, hs', hys⟩ := hy
      cases ry
      obtain ⟨its', rv', pl', _⟩ := I.list hs'
      have hl' := pl'.isList
      have e1 : its.toArray.size = ds.length := by rw [List.size_toArray, ← rv.length, hxs.len]
      have e2 : its'.toArray.size = es.length := by rw [List.size_toArray, ← rv'.length, hys.len]
      rw [deq]
      by_cases hz : ds.length = es.length
      · have := SeqAt.RcNeAt.lists hl hl' (by omega) hu' (elems (ih50 n) hu I (by omega) hxs hys rv rv')
        rw [e1, all_deqAt hz] at this
        exact this
      · rw [deqL_ne hz]
        exact SeqAt.RcNeAt.lists_lengths hl hl' (by rw [bne_iff_ne]; omega) hu'
    | t es =>
      rw [Is] at hy
      obtain ⟨q, ys, rfl, hs', hys⟩ := hy
      cases ry
      obtain ⟨its', rv', pl', _⟩ := I.tuple hs'
      have hl' : s.heap.IsTuple q its'.toArray := pl'
      rw [show deq (.l ds) (.t es) = false by rw [deq]; all_goals (intros; simp_all)]
      exact SeqAt.RcNeAt.list_tuple hl hl' hu'
  | t ds =>
    rw [dep] at hn
    rw [Is] at hx
    obtain ⟨p', xs, e0, hs, hxs⟩ := hx
    cases e0
    obtain ⟨its, rv, pl, _⟩ := I.tuple hs
    have hl : s.heap.IsTuple p its.toArray := pl
    cases e with
    | f y' =>
      rw [Is] at hy
      obtain ⟨rfl, fy⟩ := hy
      rw [show deq (.t ds) (.f y) = false by rw [deq]; all_goals (intros; simp_all)]
      cases y with
      | non => cases ry; exact SeqAt.RcNeAt.tuple_none hl hu'
      | bl b => cases ry; exact SeqAt.RcNeAt.tuple_bool b hl hu'
      | int i => obtain ⟨t, rfl⟩ := ry; exact SeqAt.RcNeAt.tuple_int i t hl hu'
      | str z => obtain ⟨t, rfl⟩ := ry; exact SeqAt.RcNeAt.tuple_str z t hl hu'
      | _ => cases fy
    | l es =>
      rw [Is] at hy
      obtain ⟨q, ys, rfl, hs', hys⟩ := hy
      cases ry
      obtain ⟨its', rv', pl', _⟩ := I.list hs'
      have hl' := pl'.isList
      rw [show deq (.t ds) (.l es) = false by rw [deq]; all_goals (intros; simp_all)]
      exact SeqAt.RcNeAt.tuple_list hl hl' hu'
    | t es =>
      rw [Is] at hy
      obtain ⟨q, ys, rfl, hs', hys⟩ := hy
      cases ry
      obtain ⟨its', rv', pl', _⟩ := I.tuple hs'
      have hl' : s.heap.IsTuple q its'.toArray := pl'
      have e1 : its.toArray.size = ds.length := by rw [List.size_toArray, ← rv.length, hxs.len]
      have e2 : its'.toArray.size = es.length := by rw [List.size_toArray, ← rv'.length, hys.len]
      rw [deq]
      have := SeqAt.RcNeAt.tuples hl hl' hu' (elems (ih50 n) hu I (by omega) hxs hys rv rv')
      rw [e1, e2] at this
      by_cases hz : ds.length = es.length
      · rw [← hz, Nat.min_self, all_deqAt hz, beq_self_eq_true, Bool.and_true] at this
        exact this
      · rw [deqL_ne hz]
        have : (ds.length == es.length) = false := by simpa using hz
        simp_all
end
section
variable {X : Cx}
theorem op_neD {k : Nat} (hr : Room k X.A) : OpR X (compareOp .NotEq) (rNeD X.K) := by
  intro pins s σ H x y v u Q I rx ry h
  obtain ⟨p, d, e, rfl, hx, hy, hd, q⟩ := h
  cases rx
  have := neAt_D 50 d e (A := X.A) (by omega) (by have := hr.units; omega) I hx hy ry
  exact this X.prog X.w X.xe _ ⟨.bl _, H, I, rfl, q⟩
end
theorem isL_flat {K : PySem.W.Frag} {H : Hp} : ∀ {xs : List V}, xs.all flatV = true → IsL K H xs (xs.map Dt.f)
  | [], _ => by rw [List.map_nil, IsL]
  | x :: r, h => by
    rw [List.all_cons, Bool.and_eq_true] at h
    rw [List.map_cons, IsL]
    exact ⟨x, r, rfl, by rw [Is]; exact ⟨rfl, h.1⟩, isL_flat h.2⟩
theorem is_tup {K : PySem.W.Frag} {H : Hp} {p : Addr} {xs : List V} (h : SqT K H p xs) (f : xs.all flatV = true) : Is K H (.ref p) (.t (xs.map Dt.f)) := by rw [Is]; exact ⟨p, xs, rfl, h, isL_flat f⟩
theorem depL_flat : ∀ {xs : List V}, depL (xs.map Dt.f) = 0
  | [] => by rw [List.map_nil, depL]
  | x :: r => by rw [List.map_cons, depL, depL_flat, dep]; rfl
theorem dep_t {xs : List V} : dep (.t (xs.map Dt.f)) = 1 := by rw [dep, depL_flat]
def CompIt (J : It) (nt : Nat) (cs : List Nat) (g : TG) (tt : TT) (te : TE) (σ : St) (H1 : Hp) (Q : VK) : Prop := ∀ acc, H1 acc = none →
  ∃ W : Nat → Nat → List V → St → Hp → Prop, (∃ m, W 0 m [] (capSt nt cs σ) (upd H1 acc (.lst []))) ∧ ∀ i m ys σ' H', W i m ys σ' H' → H' acc = some (.lst ys) ∧
    ((J.stop i H' ∧ Q (.ref acc) H') ∨ (J.go i H' ∧ ys.length < sizeLine ∧ ∃ N : List V → St → Hp → Prop, (∀ zs σ2 H2, N zs σ2 H2 → ∃ m', m' < m ∧ W (i + 1) m' zs σ2 H2) ∧
      ∀ x H2, J.yld i H' x H2 → g x σ' H2 fun σ3 H3 => tt σ3 H3 fun b H4 => if b = true then te σ3 H4 fun y H5 => H5 acc = some (.lst ys) ∧ N (ys ++ [y]) σ3 (upd H5 acc (.lst (ys ++ [y]))) else N ys σ3 H4))
section
variable {K : PySem.W.Frag} {σ : St} {H : Hp} {Q : VK} {nt : Nat} {cs : List Nat} {g : TG} {tt : TT} {te : TE} {a : Addr}
theorem w_compL {tl : TE} : tComp (iList K tl) nt cs g tt te σ H Q = (tl σ H fun x H1 => ∃ a, x = .ref a ∧ (∃ xs, SqL K H1 a xs) ∧ CompIt (Itl K a) nt cs g tt te σ H1 Q) := rfl
theorem w_compT {tl : TE} : tComp (iTup K tl) nt cs g tt te σ H Q = (tl σ H fun x H1 => ∃ a, x = .ref a ∧ (∃ xs, SqT K H1 a xs) ∧ CompIt (Itt K a) nt cs g tt te σ H1 Q) := rfl
theorem w_comp1 {ta : TA} : tComp (iRng1 ta) nt cs g tt te σ H Q = (ta σ H fun vs H1 => ∃ j : Int, vs = [.int j] ∧ -(2 ^ 62) ≤ j ∧ j < 2 ^ 62 ∧ CompIt (Itr 0 j.toNat) nt cs g tt te σ H1 Q) := rfl
theorem w_yes {R : Bool → Hp → Prop} : tYes σ H R = R true H := rfl
def capV (cs : List Nat) (σ : St) : St := cs.map fun c => (σ[c]?).join
theorem Same.seqT {K : PySem.W.Frag} {H H' : Hp} {a : Addr} {xs : List V} (e : Same H H') (h : SqT K H a xs) : SqT K H' a xs := by
  rcases h with (h | ⟨o, h⟩) | h
  · exact .inl (.inl (e _ _ h))
  · exact .inl (.inr ⟨o, e _ _ h⟩)
  · exact .inr h
def rngV (lo : Int) (n : Nat) : List V := (List.range n).map fun (i : Nat) => V.int (lo + (i : Int))
theorem rngV_len {lo : Int} {n : Nat} : (rngV lo n).length = n := by unfold rngV; rw [List.length_map, List.length_range]
end
end L2
set_option Elab.async false
set_option linter.all false
set_option maxRecDepth 100000
set_option maxHeartbeats 1000000
namespace L2
open PySem PySem.Spec PyProof.Rows
section
variable {X : Cx}
theorem walk_list {pins : List (Addr × Obj)} {σ : St} {H : Hp} {s : Shared} {p : Addr} {xs : List V} (hc : X.calm = true) (I : Inv X pins σ H s) (hp : H p = some (.lst xs)) {Q : Value → Shared → Prop} {E : Value → Shared → Prop}
    (h : ∀ (its : List Value), Vals xs its → ∀ s2 : Shared, s2.heap.IsListIter s.heap.objs.size p 0 ∧ s2.heap.IsList p its.toArray → (∀ b ∈ [s.heap.objs.size, p], b < s2.heap.objs.size) → p ≠ s.heap.objs.size → Walks X.prog X.w X.A.in1 s.heap.objs.size [s.heap.objs.size, p] [s.heap.objs.size] its.toArray.size (fun i v => its.toArray[i]? = some v) (fun i h => h.IsListIter s.heap.objs.size p i ∧ h.IsList p its.toArray) →
      (∀ h' tk, (∀ b o, b ∉ [s.heap.objs.size] → s2.heap.get? b = some o → h'.get? b = some o) → Inv X pins σ H { s2 with heap := h', toks := tk }) → Q (.ref s.heap.objs.size) s2) : wpAny (model X.prog X.w) X.A.in1 (pyIter (.ref p)) Q E s := by
  obtain ⟨its, rv, pl, _⟩ := I.list (SqL.of hp)
  have hlt : p < s.heap.objs.size := I.hok.lt hp
  refine wpAny_pyIter_list pl.isList (h its rv _ ⟨⟨_, Heap.get?_push_size _ rfl, rfl, rfl⟩, pl.isList.push _⟩ (fun b hb => ?_) (Nat.ne_of_lt hlt) (Walks.list (A := X.A.in1) (I.ok.hd hc) _ p (Nat.ne_of_lt hlt) its.toArray) fun h' tk hk => ?_)
  · show b < (s.heap.push _).objs.size
    rw [Heap.size_push]
    rcases List.mem_cons.mp hb with e | e
    · rw [e]; exact Nat.lt_succ_self _
    · have : b = p := by simpa using e
      rw [this]; exact Nat.lt_succ_of_lt hlt
  · exact I.kept (h' := h') (t' := tk) fun b o e => hk b o (by simpa using Nat.ne_of_lt (Heap.lt_size e)) (Heap.get?_push_of_some _ e)
def rBits : V → List V → Hp → VK → Prop := fun x vs H Q => ∃ i, x = .int i ∧ vs = [] ∧ Q (.int (Builtin.Int.intBits i : Nat)) H
theorem w_rBits {i : Int} {H : Hp} {Q : VK} : rBits (.int i) [] H Q = Q (.int (Builtin.Int.intBits i : Nat)) H := propext ⟨fun ⟨j, e, _, q⟩ => by cases e; exact q, fun q => ⟨i, rfl, rfl, q⟩⟩
theorem w_tyInt {K : PySem.W.Frag} {i : Int} {H : Hp} : tyV K "int" (.int i) H = True := eq_true (by first | exact rfl | (unfold tyV; rfl) | (unfold tyV; simp))
end
section
variable {K : PySem.W.Frag} {σ : St} {H : Hp} {Q : VK}
theorem w_bm {T : String} {r : V → List V → Hp → VK → Prop} {to : TE} {t : TA} : tBM K T r to t σ H Q = (to σ H fun x H1 => tyV K T x H1 ∧ t σ H1 fun xs H2 => r x xs H2 Q) := rfl
theorem w_bm0 {T : String} {r : V → List V → Hp → VK → Prop} {to : TE} : tBM0 K T r to σ H Q = (to σ H fun x H1 => tyV K T x H1 ∧ r x [] H1 Q) := rfl
theorem w_append {l : Addr} {y : V} : rAppend (.ref l) [y] H Q = ∃ xs, H l = some (.lst xs) ∧ xs.length < sizeLine ∧ Q .non (upd H l (.lst (xs ++ [y]))) :=
  propext ⟨fun ⟨l', xs, y', e1, e2, h, z, q⟩ => by cases e1; cases e2; exact ⟨xs, h, z, q⟩, fun ⟨xs, h, z, q⟩ => ⟨l, xs, y, rfl, rfl, h, z, q⟩⟩
theorem ty_list {l : Addr} {xs : List V} (h : H l = some (.lst xs)) : tyV K "list" (.ref l) H := by
  first | exact .inl ⟨rfl, _, SqL.of h⟩ | (unfold tyV; exact .inl ⟨rfl, _, SqL.of h⟩)
end
end L2
set_option Elab.async false
set_option linter.all false
set_option maxRecDepth 100000
namespace L2
open PySem PySem.Spec PyProof.Rows PySem.W
end L2
set_option Elab.async false
set_option linter.all false
set_option maxRecDepth 100000
namespace L2
open PySem PySem.Spec PyProof.Rows
def gTupM (n : Nat) (t : TGs) : TG := fun v σ H Q => ∃ a xs, v = .ref a ∧ H a = some (.tup xs) ∧ xs.length = n ∧ t xs σ H Q
theorem pg_tupM {X : Cx} {es : List Expr} {k : Nat} {t : TGs} {pos : Pos} (n : Nat) (hc : X.calm = true) (h : PGs X es t) (hn : (assignEach es X.env).length = n := by rfl) (hst : (assignEach es X.env).findIdx? (·.1) = none := by rfl) : PG X (.Tuple es k pos) (gTupM n t) := by
  intro pins s σ H v u Q I r hw
  obtain ⟨a, xs, e1, hq, hl, hw⟩ := hw
  exact pg_tup (X := X) (n := n) hc h hn hst pins s σ H v u Q I r ⟨a, xs, e1, SqT.of hq, hl, hw⟩
section
variable {K : PySem.W.Frag} {σ : St} {H : Hp} {Q : VK} {R : St → Hp → Prop}
theorem w_gTupM {n : Nat} {t : TGs} {a : Addr} : gTupM n t (.ref a) σ H R = ∃ xs, H a = some (.tup xs) ∧ xs.length = n ∧ t xs σ H R :=
  propext ⟨fun ⟨a', xs, e, h, l, q⟩ => by cases e; exact ⟨xs, h, l, q⟩, fun ⟨xs, h, l, q⟩ => ⟨a, xs, rfl, h, l, q⟩⟩
theorem w_gCons {t : TG} {u : TGs} {v : V} {r : List V} : gCons t u (v :: r) σ H R = t v σ H fun σ' H' => u r σ' H' R :=
  propext ⟨fun ⟨v', r', e, q⟩ => by cases e; exact q, fun q => ⟨v, r, rfl, q⟩⟩
theorem w_gNil : gNil [] σ H R = R σ H := propext ⟨fun ⟨_, q⟩ => q, fun q => ⟨rfl, q⟩⟩
end
end L2
set_option Elab.async false
set_option linter.all false
set_option maxRecDepth 100000
namespace L2
open PySem PySem.Spec PyProof.Rows
def rDG : R2 := fun x y H Q => ∃ a k, x = .ref a ∧ y = kV k ∧ ∃ kvs, H a = some (.dK kvs) ∧ ∃ v, valV kvs k = some v ∧ Q v H
def rDP : V → V → V → Hp → (Hp → Prop) → Prop := fun x y v H R => ∃ a k, x = .ref a ∧ y = kV k ∧ ∃ kvs, H a = some (.dK kvs) ∧ kvs.length < sizeLine ∧ R (upd H a (.dK (putK kvs k v)))
def sDP (td ty tv : TE) : TS := fun D σ H => tv σ H fun v H1 => td σ H1 fun x H2 => ty σ H2 fun y H3 => rDP x y v H3 fun H4 => D.nx σ H4
def rDI (neg : Bool) : R2 := fun y x H Q => ∃ a k, x = .ref a ∧ y = kV k ∧ ∃ kvs, H a = some (.dK kvs) ∧ Q (.bl (if neg then !(valV kvs k).isSome else (valV kvs k).isSome)) H
section
variable {X : Cx} {o i e value : Expr} {pos pos' tpos : Pos} {td ty tv : TE}
end
section
variable {σ : St} {H : Hp} {Q : VK} {D : Ends} {a : Addr} {v : V} {R : Hp → Prop}
theorem kV_s {k : Key} {x : Str} : (V.str x = kV k) = (k = .inr x) := propext ⟨fun e => by cases k <;> cases e; rfl, fun e => by subst e; rfl⟩
theorem kV_i {k : Key} {x : Int} : (V.int x = kV k) = (k = .inl x) := propext ⟨fun e => by cases k <;> cases e; rfl, fun e => by subst e; rfl⟩
theorem w_dgS {x : Str} : rDG (.ref a) (.str x) H Q = ∃ kvs, H a = some (.dK kvs) ∧ ∃ v, valV kvs (.inr x) = some v ∧ Q v H :=
  propext ⟨fun ⟨a', k, e1, e2, q⟩ => by cases e1; rw [kV_s] at e2; subst e2; exact q, fun q => ⟨a, .inr x, rfl, rfl, q⟩⟩
theorem w_dgI {x : Int} : rDG (.ref a) (.int x) H Q = ∃ kvs, H a = some (.dK kvs) ∧ ∃ v, valV kvs (.inl x) = some v ∧ Q v H :=
  propext ⟨fun ⟨a', k, e1, e2, q⟩ => by cases e1; rw [kV_i] at e2; subst e2; exact q, fun q => ⟨a, .inl x, rfl, rfl, q⟩⟩
theorem w_sDP {td ty tv : TE} : sDP td ty tv D σ H = (tv σ H fun v H1 => td σ H1 fun x H2 => ty σ H2 fun y H3 => rDP x y v H3 fun H4 => D.nx σ H4) := rfl
theorem w_dpS {x : Str} : rDP (.ref a) (.str x) v H R = ∃ kvs, H a = some (.dK kvs) ∧ kvs.length < sizeLine ∧ R (upd H a (.dK (putK kvs (.inr x) v))) :=
  propext ⟨fun ⟨a', k, e1, e2, q⟩ => by cases e1; rw [kV_s] at e2; subst e2; exact q, fun q => ⟨a, .inr x, rfl, rfl, q⟩⟩
theorem w_dpI {x : Int} : rDP (.ref a) (.int x) v H R = ∃ kvs, H a = some (.dK kvs) ∧ kvs.length < sizeLine ∧ R (upd H a (.dK (putK kvs (.inl x) v))) :=
  propext ⟨fun ⟨a', k, e1, e2, q⟩ => by cases e1; rw [kV_i] at e2; subst e2; exact q, fun q => ⟨a, .inl x, rfl, rfl, q⟩⟩
theorem w_dII {neg : Bool} {x : Int} : rDI neg (.int x) (.ref a) H Q = ∃ kvs, H a = some (.dK kvs) ∧ Q (.bl (if neg then !(valV kvs (.inl x)).isSome else (valV kvs (.inl x)).isSome)) H :=
  propext ⟨fun ⟨a', k, e1, e2, q⟩ => by cases e1; rw [kV_i] at e2; subst e2; exact q, fun q => ⟨a, .inl x, rfl, rfl, q⟩⟩
theorem w_disp {trs : List (TE × TE)} : tDisp trs σ H Q = ∀ p, H p = none → tPairs trs σ (upd H p (.dK [])) fun ps H2 => H2 p = some (.dK []) ∧ ∃ kvs : List (Key × V), ps = kvs.map (fun kv => (kV kv.1, kv.2)) ∧ kvs.length ≤ 15 ∧ Q (.ref p) (upd H2 p (.dK (mergeK [] kvs))) := rfl
end
def penKV (a : Addr) (at_ l : Int) : List (Key × V) := [(.inr "script", .ref a), (.inr "at", .int at_), (.inr "left", .int l)]
theorem pen_s {a : Addr} {t l : Int} : valV (penKV a t l) (.inr "script") = some (.ref a) := by unfold penKV; rw [valV_pos rfl]
theorem key_sa : ¬ (Sum.inr "script" : Key) = (Sum.inr "at" : Key) := by decide
theorem key_sl : ¬ (Sum.inr "script" : Key) = (Sum.inr "left" : Key) := by decide
theorem key_al : ¬ (Sum.inr "at" : Key) = (Sum.inr "left" : Key) := by decide
theorem pen_a {a : Addr} {t l : Int} : valV (penKV a t l) (.inr "at") = some (.int t) := by unfold penKV; rw [valV_neg key_sa, valV_pos rfl]
theorem pen_l {a : Addr} {t l : Int} : valV (penKV a t l) (.inr "left") = some (.int l) := by unfold penKV; rw [valV_neg key_sl, valV_neg key_al, valV_pos rfl]
theorem pen_len {a : Addr} {t l : Int} : ((penKV a t l).length < sizeLine) = True := eq_true (Nat.lt_of_lt_of_le (by decide : 3 < 1000) (le_size (by decide)))
theorem pen_pa {a : Addr} {t l x : Int} : putK (penKV a t l) (.inr "at") (.int x) = penKV a x l := by
  unfold putK
  rw [valV_any, pen_a]
  rfl
theorem pen_pl {a : Addr} {t l x : Int} : putK (penKV a t l) (.inr "left") (.int x) = penKV a t x := by
  unfold putK
  rw [valV_any, pen_l]
  rfl
end L2
set_option Elab.async false
set_option linter.all false
set_option maxRecDepth 100000
namespace L2
open PySem PySem.Spec PyProof.Rows
def Itv (K : PySem.W.Frag) (a : Addr) (n : Nat) : It :=
  ⟨fun i H => i < n ∧ ∃ xs, SqL K H a xs ∧ xs.length = n, fun i H x H' => H' = H ∧ ∀ xs, SqL K H a xs → xs.length = n → xs[n - 1 - i]? = some x, fun i H => i = n⟩
def iRev (K : PySem.W.Frag) (ta : TA) : TI := fun σ H R => ta σ H fun vs H1 => ∃ a xs, vs = [.ref a] ∧ SqL K H1 a xs ∧ R (Itv K a xs.length) H1
def ForV (K : PySem.W.Frag) (a : Addr) (n : Nat) (g : TG) (tb : TS) (D : Ends) (σ : St) (H : Hp) : Prop := ∃ W : Nat → Nat → St → Hp → Prop, (∃ m, W 0 m σ H) ∧ ∀ i m σ H, W i m σ H →
  ((Itv K a n).stop i H ∧ D.nx σ H) ∨ ((Itv K a n).go i H ∧ ∃ N : St → Hp → Prop, (∀ σ' H', N σ' H' → ∃ m', m' < m ∧ W (i + 1) m' σ' H') ∧ ∀ x H', (Itv K a n).yld i H x H' → g x σ H' fun σ2 H2 => tb { D with nx := N, ct := N, bk := D.nx } σ2 H2)
section
variable {σ : St} {H : Hp} {D : Ends} {g : TG} {tb : TS} {K : PySem.W.Frag} {a : Addr}
theorem w_forV {ta : TA} : tFor (iRev K ta) g tb D σ H = (ta σ H fun vs H1 => ∃ a xs, vs = [.ref a] ∧ SqL K H1 a xs ∧ ForV K a xs.length g tb D σ H1) := rfl
end
end L2
set_option Elab.async false
set_option linter.all false
set_option maxRecDepth 100000
namespace L2
open PySem
def fs (n : Int) : Int := if n % 2 = 0 then 0 else 2 - n % 4
def nafF : Nat → Int → List Int
  | 0, _ => []
  | k + 1, n => if n = 0 then [] else fs n :: nafF k ((n - fs n) / 2)
def naf (n : Int) : List Int := nafF n.natAbs n
def val : List Int → Int
  | [] => 0
  | d :: r => d + 2 * val r
end L2
set_option Elab.async false
set_option linter.all false
set_option maxRecDepth 100000
namespace L2
open PySem PySem.Spec PyProof.Rows
def wt (ds : List Int) : Nat := (ds.filter fun d => decide (d ≠ 0)).length
end L2
set_option Elab.async false
set_option linter.all false
set_option maxRecDepth 100000
namespace L2
open PySem
theorem le_big {n : Nat} (h : n ≤ 100000) : n ≤ sizeLine := Nat.le_trans h (by decide)
theorem lt_big {n : Nat} (h : n < 100000) : n < sizeLine := Nat.lt_of_lt_of_le h (by decide)
theorem same_upd {H H' : Hp} {r : Addr} {o : HO} (h : H r = none) (s : Same H H') : Same H (upd H' r o) := fun b u q => by rw [upd_ne (ne_of_none q h)]; exact s b u q
def On2 (vs : List V) (P : Int → Int → Prop) : Prop := ∃ i j, vs = [.int i, .int j] ∧ P i j
theorem w_On2 {i j : Int} {P : Int → Int → Prop} : On2 [.int i, .int j] P = P i j := propext ⟨fun ⟨i', j', e, q⟩ => by cases e; exact q, fun q => ⟨i, j, rfl, q⟩⟩
section
variable {σ : St} {H : Hp} {D : Ends} {g : TG} {tb : TS} {K : PySem.W.Frag} {Q : VK} {nt : Nat} {cs : List Nat} {tt : TT} {te : TE}
theorem w_for2b {ta : TA} : tFor (iRng2 ta) g tb D σ H = (ta σ H fun vs H1 => On2 vs fun i j => (-(2 ^ 62) ≤ i ∧ i < 2 ^ 62 ∧ -(2 ^ 62) ≤ j ∧ j < 2 ^ 62) ∧ ForR i (j - i).toNat g tb D σ H1) := rfl
theorem w_comp2b {ta : TA} : tComp (iRng2 ta) nt cs g tt te σ H Q = (ta σ H fun vs H1 => On2 vs fun i j => (-(2 ^ 62) ≤ i ∧ i < 2 ^ 62 ∧ -(2 ^ 62) ≤ j ∧ j < 2 ^ 62) ∧ CompIt (Itr i (j - i).toNat) nt cs g tt te σ H1 Q) := rfl
end
end L2
set_option Elab.async false
set_option linter.all false
set_option maxRecDepth 100000
namespace L2
open PySem
abbrev wn (n : Int) : Nat := wt (naf n)
theorem w_neB {a b : Bool} {H : Hp} {Q : VK} : rNe (.bl a) (.bl b) H Q = Q (.bl (!decide (a = b))) H :=
  propext (by
    have e : decide (V.bl a = V.bl b) = decide (a = b) := by by_cases h : a = b <;> simp [h]
    unfold rNe; rw [e]; exact ⟨fun h => h.2, fun h => ⟨rfl, h⟩⟩)
theorem w_eqB {a b : Bool} {H : Hp} {Q : VK} : rEq (.bl a) (.bl b) H Q = Q (.bl (decide (a = b))) H :=
  propext (by
    have e : decide (V.bl a = V.bl b) = decide (a = b) := by by_cases h : a = b <;> simp [h]
    unfold rEq; rw [e]; exact ⟨fun h => h.2, fun h => ⟨rfl, h⟩⟩)
end L2
set_option Elab.async false
set_option linter.all false
set_option maxRecDepth 100000
namespace L2
open PySem
abbrev SS := List (Int × Int) × List Int
def stp (m : Int) (s : SS) (o : Int) : SS := if (s.1.lookup o).isSome = false ∧ (if o < 0 then -o else o) < 200 then (s.1 ++ [(o, m)], s.2 ++ [o]) else s
def kin (m n : Int) (s : SS) (k : Nat) : SS := stp m (stp m s (n + 1 * 2 ^ k)) (n - 1 * 2 ^ k)
structure SInv (m : Int) (s : SS) : Prop where
  val : ∀ n v, s.1.lookup n = some v → ((wn n : Nat) : Int) ≤ v ∧ v ≤ m
  fr : ∀ n ∈ s.2, ((wn n : Nat) : Int) ≤ m
  mem : ∀ n, s.1.lookup n = some m → n ∈ s.2
end L2
set_option Elab.async false
set_option linter.all false
set_option maxRecDepth 100000
set_option maxHeartbeats 1000000
namespace L2
open PySem PySem.Spec PyProof.Rows
section
variable {prog : Program} {w : World} {A : Around} {R : Result → Shared → Prop} {I S : Addr} {fp wr : List Addr} {n : Nat} {P : Nat → Value → Prop} {St : Nat → Heap → Prop} {bt : Nat → Nat → Bool} {d : Value}
end
section
variable {prog : Program} {w : World} {A : Around} {E : Value → Shared → Prop} {s : Shared} {d x : Value}
end
def mz : List Int → Int
  | [] => 0
  | x :: r => if mz r < x then x else mz r
section
variable {X : Cx} {e : Expr} {es : List Expr} {kws : List Keyword} {t tk : TA} {p pos : Pos}
def tMaxD (t tk : TA) : TE := fun σ H Q => t σ H fun vs H1 => tk σ H1 fun zs H2 => ∃ (p : Addr) (ns : List Int), vs = [.ref p] ∧ zs = [.int 0] ∧ H2 p = some (.lst (ns.map V.int)) ∧ (∀ n ∈ ns, 0 ≤ n) ∧ Q (.int (mz ns)) H2
end
section
variable {K : PySem.W.Frag} {σ : St} {H : Hp} {Q : VK}
theorem w_maxD {t tk : TA} : tMaxD t tk σ H Q = t σ H fun vs H1 => tk σ H1 fun zs H2 => ∃ (p : Addr) (ns : List Int), vs = [.ref p] ∧ zs = [.int 0] ∧ H2 p = some (.lst (ns.map V.int)) ∧ (∀ n ∈ ns, 0 ≤ n) ∧ Q (.int (mz ns)) H2 := rfl
theorem w_sl {r : V → Option Int → Option Int → Hp → VK → Prop} {te : TE} {tl th : TO} : tSl r te tl th σ H Q = te σ H fun x H1 => tl σ H1 fun l H2 => th σ H2 fun u H3 => r x l u H3 Q := rfl
theorem w_noPart {R : Option Int → Hp → Prop} : tNoPart σ H R = R none H := rfl
theorem w_part {t : TE} {R : Option Int → Hp → Prop} : tPart t σ H R = t σ H fun x H1 => ∃ i, x = .int i ∧ R (some i) H1 := rfl
theorem w_slL {a : Addr} {lo hi : Option Int} : rSlL K (.ref a) lo hi H Q = ∃ xs, SqL K H a xs ∧ ∀ p, H p = none → Q (.ref p) (upd H p (.lst (cutV xs lo hi))) :=
  propext ⟨fun ⟨a', xs, e, h, q⟩ => by cases e; exact ⟨xs, h, q⟩, fun ⟨xs, h, q⟩ => ⟨a, xs, rfl, h, q⟩⟩
end
def halN (c : Int) : Nat := if c > 1 then Builtin.Int.intBits (c - 1) else 0
def ld (ns : List Int) : Int := mz (ns.map fun n => ((halN (wn n : Nat) : Nat) : Int))
end L2
set_option Elab.async false
set_option linter.all false
set_option maxRecDepth 100000
set_option maxHeartbeats 1000000
namespace L2
open PySem PySem.Spec PyProof.Rows
section
variable {σ : St} {H : Hp} {Q : VK} {D : Ends}
theorem w_aug {i : Nat} {te : TE} {ti : TIp} : tAug i te ti D σ H = ∃ x, σ[i]? = some (some x) ∧ te σ H fun y H1 => ti x y H1 fun z H2 => D.nx (σ.set i (some z)) H2 := rfl
theorem w_ipI {f : Int → Int → Int} {i j : Int} : ipI f (.int i) (.int j) H Q = Q (.int (f i j)) H := propext ⟨fun ⟨_, _, e1, e2, q⟩ => by cases e1; cases e2; exact q, fun q => ⟨i, j, rfl, rfl, q⟩⟩
theorem w_dnK : tDNewK σ H Q = ∀ p, H p = none → Q (.ref p) (upd H p (.dK [])) := rfl
end
structure Dd where
  g : Int
  a : Nat
  s : Nat
  b : Nat
  t : Nat
def dnum (ns : List Int) (d : Dd) : Int := ns.getD d.a 0 * 2 ^ d.s + d.g * (ns.getD d.b 0 * 2 ^ d.t)
def ev (ds : List Dd) : List Int := ds.foldl (fun ns d => ns ++ [dnum ns d]) [1]
structure DOk (ds : List Dd) : Prop where
  at_ : ∀ (k : Nat) (d : Dd), ds[k]? = some d → d.a ≤ k ∧ d.b ≤ k ∧ d.s ≤ 300 ∧ d.t ≤ 300 ∧ (d.g = 1 ∨ d.g = -1)
  big : ∀ n ∈ ev ds, n.natAbs < 2 ^ 300
def wordOf (g : Int) : Str := if g = 1 then "sum" else "less"
def dTup (d : Dd) : List V := [.str (wordOf d.g), .int d.a, .int d.s, .int d.b, .int d.t]
structure HDs (H : Hp) (vs : List V) (ds : List Dd) : Prop where
  len : vs.length = ds.length
  at_ : ∀ (k : Nat) (d : Dd), ds[k]? = some d → ∃ x : Addr, vs[k]? = some (.ref x) ∧ H x = some (.tup (dTup d))
def CT0 (K : PySem.W.Frag) (t : Addr) : Prop := ∃ (o : Obj) (its : Array Value) (n : Nat), K.lookup t = some o ∧ o.cls = .type "tuple" ∧ o.data = .seq its n ∧ its.size ≤ sizeLine ∧ Vals [.int 0, .int 0, .int 0] its.toList
theorem CT0.sq {K : PySem.W.Frag} {t : Addr} (h : CT0 K t) (H : Hp) : SqT K H t [.int 0, .int 0, .int 0] := .inr h
structure OutOk (ns : List Int) (n : Int) (a b c : Int) : Prop where
  ok : (n = 0 ∧ a = 0 ∧ b = 0 ∧ c = 0) ∨ (n ≠ 0 ∧ ∃ (k j : Nat) (m : Int), a = k ∧ b = j ∧ j ≤ 300 ∧ (c = 1 ∨ c = -1) ∧ ns[k]? = some m ∧ m * 2 ^ j * c = n)
structure HOs (K : PySem.W.Frag) (H : Hp) (os : List V) (ns xs : List Int) : Prop where
  len : os.length = xs.length
  at_ : ∀ (k : Nat) (n : Int), xs[k]? = some n → ∃ (x : Addr) (a b c : Int), os[k]? = some (.ref x) ∧ SqT K H x [.int a, .int b, .int c] ∧ OutOk ns n a b c
structure Row (K : PySem.W.Frag) (H : Hp) (t dl ol : Addr) (ds : List Dd) (xs : List Int) : Prop where
  tup : H t = some (.tup [.int 1, .ref dl, .ref ol])
  dls : ∃ us, H dl = some (.lst us) ∧ HDs H us ds
  ols : ∃ os, H ol = some (.lst os) ∧ HOs K H os (ev ds) xs
  ok : DOk ds
  ap : ol ≠ dl
section
variable {X : Cx}
end
section
variable {K : PySem.W.Frag} {H : Hp} {Q : VK}
theorem w_ixT {p : Addr} {i : Int} : rIxT K (.ref p) (.int i) H Q = ∃ xs, SqT K H p xs ∧ ∃ v, atI xs i = some v ∧ Q v H :=
  propext ⟨fun ⟨p', xs, i', v, e1, e2, h, a, q⟩ => by cases e1; cases e2; exact ⟨xs, h, v, a, q⟩, fun ⟨xs, h, v, a, q⟩ => ⟨p, xs, i, v, rfl, rfl, h, a, q⟩⟩
theorem w_eqS {x y : Str} : rEq (.str x) (.str y) H Q = Q (.bl (decide (x = y))) H :=
  propext (by
    have e : decide (V.str x = V.str y) = decide (x = y) := by by_cases h : x = y <;> simp [h]
    unfold rEq
    rw [e]
    exact ⟨fun h => h.2, fun h => ⟨rfl, h⟩⟩)
end
end L2
set_option Elab.async false
set_option linter.all false
set_option maxRecDepth 100000
set_option maxHeartbeats 1000000
namespace L2
open PySem PySem.Spec PyProof.Rows
def Itz (K : PySem.W.Frag) (a b : Addr) : It :=
  ⟨fun i H => ∃ xs ys, SqL K H a xs ∧ SqL K H b ys ∧ i < xs.length ∧ i < ys.length,
   fun i H x H' => ∃ T u v, x = .ref T ∧ H T = none ∧ H' = upd H T (.tup [u, v]) ∧ (∀ xs, SqL K H a xs → xs[i]? = some u) ∧ (∀ ys, SqL K H b ys → ys[i]? = some v),
   fun i H => ∃ xs ys, SqL K H a xs ∧ SqL K H b ys ∧ (xs.length ≤ i ∨ ys.length ≤ i)⟩
def iZip (K : PySem.W.Frag) (ta : TA) : TI := fun σ H R => ta σ H fun vs H1 => ∃ a b xs ys, vs = [.ref a, .ref b] ∧ SqL K H1 a xs ∧ SqL K H1 b ys ∧ R (Itz K a b) H1
end L2
set_option Elab.async false
set_option linter.all false
set_option maxRecDepth 100000
set_option maxHeartbeats 1000000
namespace L2
open PySem PySem.Spec PyProof.Rows
def Ite (K : PySem.W.Frag) (a : Addr) : It :=
  ⟨fun i H => ∃ xs, SqL K H a xs ∧ i < xs.length,
   fun i H x H' => ∃ T u, x = .ref T ∧ H T = none ∧ H' = upd H T (.tup [.int (i : Int), u]) ∧ (∀ xs, SqL K H a xs → xs[i]? = some u),
   fun i H => ∃ xs, SqL K H a xs ∧ xs.length ≤ i⟩
def iEnum (K : PySem.W.Frag) (ta : TA) : TI := fun σ H R => ta σ H fun vs H1 => ∃ a xs, vs = [.ref a] ∧ SqL K H1 a xs ∧ R (Ite K a) H1
section
variable {K : PySem.W.Frag} {σ : St} {H : Hp} {Q : VK}
theorem comp_any {J : It} {nt : Nat} {cs : List Nat} {g : TG} {tt : TT} {te : TE} (n : Nat) (Pv : Addr → Nat → List V → Hp → Prop) (hz : n ≤ sizeLine)
    (hgo : ∀ acc i ys H', i < n → Pv acc i ys H' → J.go i H') (hst : ∀ acc ys H', Pv acc n ys H' → J.stop n H')
    (h0 : ∀ acc, H acc = none → Pv acc 0 [] (upd H acc (.lst []))) (hacc : ∀ acc i ys H', Pv acc i ys H' → H' acc = some (.lst ys) ∧ ys.length ≤ i)
    (hs : ∀ acc i ys H' (ts : St) x H2 (N : List V → St → Hp → Prop), H acc = none → i < n → Pv acc i ys H' → J.yld i H' x H2 → ts.length = nt → (∀ zs (ts' : St) H3, ts'.length = nt → Pv acc (i + 1) zs H3 → N zs (ts' ++ capV cs σ) H3) →
      g x (ts ++ capV cs σ) H2 fun σ3 H3 => tt σ3 H3 fun b H4 => if b = true then te σ3 H4 fun y H5 => H5 acc = some (.lst ys) ∧ N (ys ++ [y]) σ3 (upd H5 acc (.lst (ys ++ [y]))) else N ys σ3 H4)
    (hd : ∀ acc ys H', H acc = none → Pv acc n ys H' → Q (.ref acc) H') : CompIt J nt cs g tt te σ H Q := by
  intro acc hn
  refine ⟨fun i m ys σ' H' => m = n - i ∧ i ≤ n ∧ (∃ ts : St, ts.length = nt ∧ σ' = ts ++ capV cs σ) ∧ Pv acc i ys H', ⟨_, rfl, Nat.zero_le _, ⟨List.replicate nt none, List.length_replicate, rfl⟩, h0 acc hn⟩, ?_⟩
  rintro i m ys σ' H' ⟨rfl, hi, ⟨ts, hts, rfl⟩, p⟩
  obtain ⟨ha, hl⟩ := hacc acc i ys H' p
  refine ⟨ha, ?_⟩
  by_cases hlt : i < n
  · refine .inr ⟨hgo acc i ys H' hlt p, by omega, fun zs σ2 H2 => (∃ ts : St, ts.length = nt ∧ σ2 = ts ++ capV cs σ) ∧ Pv acc (i + 1) zs H2, fun zs σ2 H2 ⟨q1, q2⟩ => ⟨n - (i + 1), by omega, rfl, hlt, q1, q2⟩, fun x H2 y => ?_⟩
    exact hs acc i ys H' ts x H2 (fun zs σ2 H2 => (∃ ts : St, ts.length = nt ∧ σ2 = ts ++ capV cs σ) ∧ Pv acc (i + 1) zs H2) hn hlt p y hts fun zs ts' H3 h1 h2 => ⟨⟨ts', h1, rfl⟩, h2⟩
  · have e : i = n := by omega
    subst e
    exact .inl ⟨hst acc ys H' p, hd acc ys H' hn p⟩
theorem w_compE {ta : TA} {nt : Nat} {cs : List Nat} {g : TG} {tt : TT} {te : TE} : tComp (iEnum K ta) nt cs g tt te σ H Q = (ta σ H fun vs H1 => ∃ a xs, vs = [.ref a] ∧ SqL K H1 a xs ∧ CompIt (Ite K a) nt cs g tt te σ H1 Q) := rfl
theorem w_compZ {ta : TA} {nt : Nat} {cs : List Nat} {g : TG} {tt : TT} {te : TE} : tComp (iZip K ta) nt cs g tt te σ H Q = (ta σ H fun vs H1 => ∃ a b xs ys, vs = [.ref a, .ref b] ∧ SqL K H1 a xs ∧ SqL K H1 b ys ∧ CompIt (Itz K a b) nt cs g tt te σ H1 Q) := rfl
end
def Itr3 (lo c : Int) (n : Nat) : It := ⟨fun i _ => i < n, fun i H x H' => H' = H ∧ x = .int (lo + i * c), fun i _ => n ≤ i⟩
def stepN (lo hi c : Int) : Nat := (Builtin.Range.rangeSize lo hi c).toNat
def iRng3 (ta : TA) : TI := fun σ H R => ta σ H fun vs H1 => ∃ i j c : Int, vs = [.int i, .int j, .int c] ∧ (0 ≤ i ∧ i < 2 ^ 31 ∧ -1 ≤ j ∧ j < 2 ^ 31 ∧ c = 2) ∧ R (Itr3 i c (stepN i j c)) H1
def ForR3 (lo c : Int) (n : Nat) (g : TG) (tb : TS) (D : Ends) (σ : St) (H : Hp) : Prop := ∃ W : Nat → Nat → St → Hp → Prop, (∃ m, W 0 m σ H) ∧ ∀ i m σ H, W i m σ H →
  ((Itr3 lo c n).stop i H ∧ D.nx σ H) ∨ ((Itr3 lo c n).go i H ∧ ∃ N : St → Hp → Prop, (∀ σ' H', N σ' H' → ∃ m', m' < m ∧ W (i + 1) m' σ' H') ∧ ∀ x H', (Itr3 lo c n).yld i H x H' → g x σ H' fun σ2 H2 => tb { D with nx := N, ct := N, bk := D.nx } σ2 H2)
section
variable {σ : St} {H : Hp} {D : Ends} {g : TG} {tb : TS} {lo c : Int} {n : Nat}
theorem w_for3 {ta : TA} : tFor (iRng3 ta) g tb D σ H = (ta σ H fun vs H1 => ∃ i j c : Int, vs = [.int i, .int j, .int c] ∧ (0 ≤ i ∧ i < 2 ^ 31 ∧ -1 ≤ j ∧ j < 2 ^ 31 ∧ c = 2) ∧ ForR3 i c (stepN i j c) g tb D σ H1) := rfl
end
end L2
set_option Elab.async false
set_option linter.all false
set_option maxRecDepth 100000
set_option maxHeartbeats 1000000
namespace L2
open PySem PySem.Spec
structure Pt where
  th : Nat
  sh : Nat
  g : Int
def pval (ns : List Int) (p : Pt) : Int := p.g * (ns.getD p.th 0 * 2 ^ p.sh)
def pvs (ns : List Int) (ps : List Pt) : Int := (ps.map (pval ns)).sum
def dpt (ds : List Dd) : List Nat := ds.foldl (fun ps d => ps ++ [1 + max (ps.getD d.a 0) (ps.getD d.b 0)]) [0]
def PtOk (ds : List Dd) (j : Nat) (p : Pt) : Prop := (p.g = 1 ∨ p.g = -1) ∧ p.sh ≤ 200 ∧ ∃ (n : Int) (e : Nat), (ev ds)[p.th]? = some n ∧ (dpt ds)[p.th]? = some e ∧ e ≤ j ∧ n.natAbs * 2 ^ p.sh ≤ 2 ^ (201 + j)
structure PsOk (ds : List Dd) (j : Nat) (ps : List Pt) : Prop where
  all : ∀ p ∈ ps, PtOk ds j p
  up : ∀ i p q, ps[i]? = some p → ps[i + 1]? = some q → p.sh ≤ q.sh
  fst : ∀ p, ps[0]? = some p → (dpt ds)[p.th]? = some j
  lst : ∀ p, ps.getLast? = some p → p.g = 1
structure PrI (ds : List Dd) (j : Nat) (ps : List Pt) (k : Nat) (new : List Dd) (qs : List Pt) : Prop where
  ok : DOk (ds ++ new)
  nl : new.length = k
  ql : qs.length = k
  val : pvs (ev (ds ++ new)) qs = pvs (ev ds) (ps.take (2 * k))
  all : ∀ q ∈ qs, PtOk (ds ++ new) (j + 1) q
  shs : ∀ (i : Nat) (q : Pt), qs[i]? = some q → ∃ p, ps[2 * i]? = some p ∧ q.sh = p.sh
  fst : ∀ q, qs[0]? = some q → (dpt (ds ++ new))[q.th]? = some (j + 1)
  lst : ∀ (i : Nat) (q p : Pt), qs[i]? = some q → ps[2 * i + 1]? = some p → p.g = 1 → q.g = 1
theorem get_snoc {α : Type} {xs : List α} {x y : α} {i : Nat} (h : (xs ++ [x])[i]? = some y) : (i < xs.length ∧ xs[i]? = some y) ∨ (i = xs.length ∧ y = x) := by
  by_cases hi : i < xs.length
  · rw [List.getElem?_append_left hi] at h
    exact .inl ⟨hi, h⟩
  · rw [List.getElem?_append_right (by omega)] at h
    have hz : i - xs.length = 0 := by
      cases hk : i - xs.length with
      | zero => rfl
      | succ m => rw [hk] at h; simp at h
    rw [hz] at h
    cases h
    exact .inr ⟨by omega, rfl⟩
end L2
set_option Elab.async false
set_option linter.all false
set_option maxRecDepth 100000
set_option maxHeartbeats 1000000
namespace L2
open PySem PySem.Spec PyProof.Rows
def pTup (p : Pt) : List V := [.int p.th, .int p.sh, .int p.g]
structure HPs (H : Hp) (vs : List V) (ps : List Pt) : Prop where
  len : vs.length = ps.length
  at_ : ∀ (k : Nat) (p : Pt), ps[k]? = some p → ∃ x : Addr, vs[k]? = some (.ref x) ∧ H x = some (.tup (pTup p))
structure HOd (K : PySem.W.Frag) (H : Hp) (os : List V) (ns : List Int) (es : List Nat) (xs : List Int) : Prop where
  len : os.length = xs.length
  at_ : ∀ (k : Nat) (n : Int), xs[k]? = some n → ∃ (x : Addr) (a b c : Int), os[k]? = some (.ref x) ∧ SqT K H x [.int a, .int b, .int c] ∧ OutOk ns n a b c ∧ (n ≠ 0 → ∃ i : Nat, a = i ∧ es[i]? = some (halN (wn n : Nat)))
def gTupK (K : PySem.W.Frag) (n : Nat) (t : TGs) : TG := gTup K n t
section
variable {K : PySem.W.Frag} {σ : St} {H : Hp} {R : St → Hp → Prop}
theorem w_gTupK {n : Nat} {t : TGs} {a : Addr} : gTupK K n t (.ref a) σ H R = ∃ xs, SqT K H a xs ∧ xs.length = n ∧ t xs σ H R :=
  propext ⟨fun ⟨a', xs, e, h, l, q⟩ => by cases e; exact ⟨xs, h, l, q⟩, fun ⟨xs, h, l, q⟩ => ⟨a, xs, rfl, h, l, q⟩⟩
end
end L2
set_option Elab.async false
set_option linter.all false
set_option maxRecDepth 100000
set_option maxHeartbeats 1000000
namespace L2
open PySem PySem.Spec PyProof.Rows
theorem draw_walk {prog : Program} {w : World} {A : Around} {E : Value → Shared → Prop} {I : Addr} {fp wr : List Addr} {n : Nat} {P : Nat → Value → Prop} {St : Nat → Heap → Prop} (W : Walks prog w A I fp wr n P St) : ∀ (k i : Nat) (s : Shared) (Q : List Value → Shared → Prop), i + k ≤ n → St i s.heap →
    (∀ vs h' tk, vs.length = k → (∀ (j : Nat) (v : Value), vs[j]? = some v → P (i + j) v) → St (i + k) h' → (∀ b o, b ∉ wr → s.heap.get? b = some o → h'.get? b = some o) → Q vs { s with heap := h', toks := tk }) → wpAny (model prog w) A (draw (.ref I) k) Q E s
  | 0, i, s, Q, hle, st, hQ => by
    show wpAny _ _ (pure []) Q E s
    exact wpAny_pure (hQ [] s.heap s.toks rfl (fun j v h => by simp at h) st fun _ _ _ e => e)
  | k + 1, i, s, Q, hle, st, hQ => by
    show wpAny _ _ (pyNext (.ref I) >>= _) Q E s
    refine wpAny_bind (W.item i s _ _ (by omega) st fun v h' tk hP st' hk => ?_)
    refine wpAny_bind (wpAny_holding (draw_walk W k (i + 1) _ _ (by omega) st' fun vs h2 tk2 hl hv st2 hk2 => wpAny_pure ?_))
    refine hQ (v :: vs) h2 tk2 (by rw [List.length_cons, hl]) (fun j u hj => ?_) (by rw [show i + (k + 1) = i + 1 + k by omega]; exact st2) fun b o hb e => hk2 b o hb (hk b o hb e)
    cases j with
    | zero => cases hj; exact hP
    | succ j =>
      rw [List.getElem?_cons_succ] at hj
      have := hv j u hj
      rw [show i + (j + 1) = i + 1 + j by omega]
      exact this
theorem vals_at : ∀ {xs : List V} {its us : List Value}, Vals xs its → us.length = its.length → (∀ (j : Nat) (v : Value), us[j]? = some v → its[j]? = some v) → us = its
  | _, its, us, _, hl, h => by
    refine List.ext_getElem? fun j => ?_
    by_cases hj : j < us.length
    · rw [List.getElem?_eq_getElem hj, h j _ (List.getElem?_eq_getElem hj)]
    · rw [List.getElem?_eq_none (by omega), List.getElem?_eq_none (by omega)]
section
variable {X : Cx} {pins : List (Addr × Obj)} {σ : St} {H : Hp} {s : Shared} {p : Addr} {xs : List V}
theorem unpack_list (hc : X.calm = true) (I : Inv X pins σ H s) (hp : H p = some (.lst xs)) {Q : List Value → Shared → Prop} {E : Value → Shared → Prop} (h : ∀ its s', Vals xs its → Inv X pins σ H s' → Q its s') :
    wpAny (model X.prog X.w) X.A (unpackItems (.ref p) xs.length none) Q E s := by
  obtain ⟨its0, rv0, pl, _⟩ := I.list (SqL.of hp)
  unfold unpackItems
  refine wpAny_bind ?_
  unfold notIterableAtAll
  refine wpAny_bind (wpAny_specialOf pl.isList.typeIs slot_list_iter.lookup ?_)
  refine wpAny_pure ?_
  simp only [Bool.false_eq_true, if_false]
  refine wpAny_bind (wpAny_holding (wpAny_of_in1 (walk_list hc I hp fun its rv s2 st hfp hne W hI => ?_)))
  have W2 := W.of_in1
  have hl : its.toArray.size = xs.length := by rw [List.size_toArray, ← rv.length]
  refine wpAny_bind (wpAny_holding (draw_walk W2 xs.length 0 s2 _ (by rw [hl]; omega) st fun vs h1 tk1 hvl hv st1 hk1 => ?_))
  have ev : vs = its := vals_at rv (by rw [hvl, rv.length]) fun j v hj => by
    have := hv j v hj
    rw [Nat.zero_add] at this
    simpa using this
  subst ev
  rw [if_neg (by rw [← rv.length]; exact Nat.lt_irrefl _)]
  refine wpAny_bind (wpAny_holding (W2.done _ _ _ (by rw [hl]; rw [Nat.zero_add] at st1; exact st1) fun h2 tk2 hk2 => ?_))
  simp only [Option.isSome_none, Bool.false_eq_true, if_false]
  exact wpAny_pure (h _ _ rv (hI h2 tk2 fun b o hb e => hk2 b o hb (hk1 b o hb e)))
def gLst (n : Nat) (t : TGs) : TG := fun v σ H Q => ∃ a xs, v = .ref a ∧ H a = some (.lst xs) ∧ xs.length = n ∧ t xs σ H Q
theorem pg_lst {es : List Expr} {k : Nat} {t : TGs} {pos : Pos} (n : Nat) (hc : X.calm = true) (h : PGs X es t) (hn : (assignEach es X.env).length = n := by rfl) (hst : (assignEach es X.env).findIdx? (·.1) = none := by rfl) : PG X (.Tuple es k pos) (gLst n t) := by
  intro pins s σ H v u Q I r hw
  obtain ⟨a, xs, e1, hq, hl, hw⟩ := hw
  subst e1
  cases r
  rw [PyProof.Rows.assign_Tuple]
  refine wpAny_bind (wpAny_standAt ?_)
  unfold unpack
  rw [hst, hn, ← hl]
  exact wpAny_bind (wpAny_holding (unpack_list hc I hq fun its s' rv I1 => h pins s' σ H xs its Q I1 rv hw))
end
section
variable {σ : St} {H : Hp} {R : St → Hp → Prop}
theorem w_gLst {n : Nat} {t : TGs} {a : Addr} : gLst n t (.ref a) σ H R = ∃ xs, H a = some (.lst xs) ∧ xs.length = n ∧ t xs σ H R :=
  propext ⟨fun ⟨a', xs, e, h, l, q⟩ => by cases e; exact ⟨xs, h, l, q⟩, fun ⟨xs, h, l, q⟩ => ⟨a, xs, rfl, h, l, q⟩⟩
end
def ForE (K : PySem.W.Frag) (a : Addr) (g : TG) (tb : TS) (D : Ends) (σ : St) (H : Hp) : Prop := ∃ W : Nat → Nat → St → Hp → Prop, (∃ m, W 0 m σ H) ∧ ∀ i m σ H, W i m σ H →
  ((Ite K a).stop i H ∧ D.nx σ H) ∨ ((Ite K a).go i H ∧ ∃ N : St → Hp → Prop, (∀ σ' H', N σ' H' → ∃ m', m' < m ∧ W (i + 1) m' σ' H') ∧ ∀ x H', (Ite K a).yld i H x H' → g x σ H' fun σ2 H2 => tb { D with nx := N, ct := N, bk := D.nx } σ2 H2)
section
variable {K : PySem.W.Frag} {σ : St} {H : Hp} {D : Ends} {g : TG} {tb : TS} {a : Addr}
theorem w_forE {ta : TA} : tFor (iEnum K ta) g tb D σ H = (ta σ H fun vs H1 => ∃ a xs, vs = [.ref a] ∧ SqL K H1 a xs ∧ ForE K a g tb D σ H1) := rfl
end
end L2
set_option Elab.async false
set_option linter.all false
set_option maxRecDepth 100000
set_option maxHeartbeats 1000000
namespace L2
open PySem PySem.Spec
def LPen (H : Hp) (p a : Addr) (c : Int) : Prop := ∃ t l : Int, H p = some (.lst [.ref a, .int t, .int l]) ∧ 0 ≤ t ∧ t ≤ c ∧ 0 ≤ l
theorem LPen.mono {H : Hp} {p a : Addr} {c d : Int} (h : LPen H p a c) (l : c ≤ d) : LPen H p a d := by
  obtain ⟨t, x, e, h0, h1, h2⟩ := h
  exact ⟨t, x, e, h0, by omega, h2⟩
theorem LPen.same {H H' : Hp} {p a : Addr} {c : Int} (h : LPen H p a c) (s : Same H H') : LPen H' p a c := by
  obtain ⟨t, x, e, r⟩ := h
  exact ⟨t, x, s _ _ e, r⟩
theorem LPen.lst {H : Hp} {p a : Addr} {c : Int} (h : LPen H p a c) : ∃ xs, H p = some (.lst xs) := by
  obtain ⟨t, x, e, r⟩ := h
  exact ⟨_, e⟩
theorem LPen.ne {H : Hp} {p a q : Addr} {c : Int} (h : LPen H p a c) (hq : H q = none) : q ≠ p := by
  obtain ⟨xs, h⟩ := h.lst
  exact (ne_of_none h hq).symm
theorem LPen.chg {H H' : Hp} {p a q : Addr} {c : Int} (h : LPen H p a c) (n : p ≠ q) (s : Chg q H H') : LPen H' p a c := by
  obtain ⟨t, x, e, r⟩ := h
  exact ⟨t, x, s _ _ n e, r⟩
theorem lpen_of {H : Hp} {p a : Addr} {t l c : Int} (h0 : 0 ≤ t) (h1 : t ≤ c) (h2 : 0 ≤ l) : LPen (upd H p (.lst [.ref a, .int t, .int l])) p a c := ⟨t, l, upd_same, h0, h1, h2⟩
theorem Scr.lpen {K : PySem.W.Frag} {H H' : Hp} {p a : Addr} {c : Int} {ns : List Int} (h : Scr K H a ns) (hp : LPen H p a c) (s : Chg p H H') : Scr K H' a ns := by
  obtain ⟨xs, e⟩ := hp.lst
  exact h.chg e s
def spLPen (K : PySem.W.Frag) : Sp := fun vs H Q _ => ∃ (a : Addr), vs = [.ref a] ∧ ∀ p H', H p = none → Same H H' → LPen H' p a 0 → Q (.ref p) H'
def spLTake (K : PySem.W.Frag) : Sp := fun vs H Q _ => ∃ (p a : Addr) (ns : List Int) (m c : Int), vs = [.ref p, .int m] ∧ LPen H p a c ∧ Scr K H a ns ∧ ns.length ≤ 63 ∧ c ≤ 1000000000 ∧ 1 ≤ m ∧ m < 2 ^ 64 ∧
  ∀ (r : Int) H', 0 ≤ r → r < m → LPen H' p a (c + 1) → Scr K H' a ns → Chg p H H' → Q (.int r) H'
theorem ltake_ {K : PySem.W.Frag} {H : Hp} {p a : Addr} {ns : List Int} {m c : Int} {Q : VK} {E : XK} (hP : LPen H p a c) (hS : Scr K H a ns) (h63 : ns.length ≤ 63) (hc : c ≤ 1000000000) (h1 : 1 ≤ m) (h2 : m < 2 ^ 64)
    (q : ∀ (r : Int) H', 0 ≤ r → r < m → LPen H' p a (c + 1) → Scr K H' a ns → Chg p H H' → Q (.int r) H') : spLTake K [.ref p, .int m] H Q E := ⟨p, a, ns, m, c, rfl, hP, hS, h63, hc, h1, h2, q⟩
def mvI (s n : Int) : Int := n * 2 ^ (if 0 > s then (0 : Int) else s).toNat / 2 ^ (if 0 > 0 - s then (0 : Int) else 0 - s).toNat
end L2
set_option Elab.async false
set_option linter.all false
set_option maxRecDepth 100000
set_option maxHeartbeats 1000000
namespace L2
open PySem PySem.Spec
structure Wd where
  w : Str
  a : Nat
  s : Int
  b : Nat
  t : Int
structure Go where
  th : Nat
  sh : Int
  sg : Int
def wTup (d : Wd) : List V := [.str d.w, .int d.a, .int d.s, .int d.b, .int d.t]
def gTp (g : Go) : List V := [.int g.th, .int g.sh, .int g.sg]
structure HTs {α : Type} (f : α → List V) (H : Hp) (vs : List V) (xs : List α) : Prop where
  len : vs.length = xs.length
  at_ : ∀ (k : Nat) (x : α), xs[k]? = some x → ∃ p : Addr, vs[k]? = some (.ref p) ∧ H p = some (.tup (f x))
section
variable {α : Type} {f : α → List V} {H H' : Hp} {vs us : List V} {xs : List α} {l : Addr}
theorem HTs.same (h : HTs f H vs xs) (s : Same H H') : HTs f H' vs xs := ⟨h.len, fun k d e => by
  obtain ⟨x, e1, e2⟩ := h.at_ k d e
  exact ⟨x, e1, s _ _ e2⟩⟩
theorem HTs.chgL (h : HTs f H vs xs) (hl : H l = some (.lst us)) (c : Chg l H H') : HTs f H' vs xs := ⟨h.len, fun k d e => by
  obtain ⟨x, e1, e2⟩ := h.at_ k d e
  exact ⟨x, e1, c _ _ (ne_of e2 hl (by intro z; cases z)) e2⟩⟩
theorem HTs.snoc {x : α} {p : Addr} (h : HTs f H vs xs) (hx : H p = some (.tup (f x))) : HTs f H (vs ++ [.ref p]) (xs ++ [x]) := by
  refine ⟨by simp [h.len], fun k e he => ?_⟩
  rcases get_snoc he with ⟨hk, z⟩ | ⟨hk, rfl⟩
  · obtain ⟨y, e1, e2⟩ := h.at_ k e z
    exact ⟨y, by rw [List.getElem?_append_left (by rw [h.len]; exact hk)]; exact e1, e2⟩
  · refine ⟨p, ?_, hx⟩
    rw [List.getElem?_append_right (by rw [h.len]; omega), h.len, hk, Nat.sub_self]
    rfl
theorem hts_nil : HTs f H [] [] := ⟨rfl, fun k d h => by simp at h⟩
end
structure HRs (H : Hp) (ex : List Addr) (vs : List V) (rs : List (List Int)) : Prop where
  len : vs.length = rs.length
  at_ : ∀ (k : Nat) (r : List Int), rs[k]? = some r → ∃ p : Addr, vs[k]? = some (.ref p) ∧ H p = some (.lst (r.map V.int)) ∧ ∀ e ∈ ex, p ≠ e
section
variable {H H' : Hp} {ex : List Addr} {vs : List V} {rs : List (List Int)} {l : Addr}
end
def RB (b : Nat) (rs : List (List Int)) : Prop := ∀ r ∈ rs, r.length ≤ 12 ∧ ∀ n ∈ r, n.natAbs ≤ 2 ^ b
structure WebOk (ins : Nat) (ds : List Wd) (gs : List Go) : Prop where
  i1 : 1 ≤ ins
  i2 : ins ≤ 12
  dk : ∀ (k : Nat) (d : Wd), ds[k]? = some d → d.a < ins + k ∧ d.b < ins + k ∧ (d.w = "sum" ∨ d.w = "less")
  gk : ∀ g ∈ gs, g.th < ins + ds.length
  dl : ds.length ≤ 60
  gl : gs.length ≤ 12
end L2
set_option Elab.async false
set_option linter.all false
set_option maxRecDepth 100000
set_option maxHeartbeats 1000000
namespace L2
open PySem PySem.Spec PyProof.Rows
section
variable {X : Cx}
end
end L2
set_option Elab.async false
set_option linter.all false
set_option maxRecDepth 100000
set_option maxHeartbeats 1000000
namespace L2
open PySem PySem.Spec
theorem Chg.new {p q : Addr} {H H' : Hp} (c : Chg p H H') (n : q ≠ p) (h : H' q = none) : H q = none := by
  cases e : H q with
  | none => rfl
  | some o => rw [c q o n e] at h; cases h
section
variable {K : PySem.W.Frag} {σ : St} {H : Hp} {Q : VK} {cs : List Nat} {te : TE}
end
def unitRow (n i : Nat) : List Int := (List.range n).map fun k => if k = i then 1 else 0
end L2
set_option Elab.async false
set_option linter.all false
set_option maxRecDepth 100000
set_option maxHeartbeats 1000000
namespace L2
open PySem PySem.Spec
theorem map_at {ns : List Int} {i : Nat} {x : V} (h : (ns.map V.int)[i]? = some x) : ∃ n, ns[i]? = some n ∧ x = V.int n := by
  rw [List.getElem?_map] at h
  cases e : ns[i]? with
  | none => rw [e] at h; cases h
  | some n => rw [e] at h; exact ⟨n, rfl, (Option.some.inj h).symm⟩
structure WI (H : Hp) (p : Addr) (ins : Nat) (tb dl : Addr) (k : Nat) (vs us : List V) (rs : List (List Int)) (ds : List Wd) (H' : Hp) : Prop where
  tbl : H' tb = some (.lst vs)
  hrs : HRs H' [dl, tb, p] vs rs
  rl : rs.length = ins + k
  rb : RB (41 * k) rs
  rw_ : ∀ r ∈ rs, r.length = ins
  dll : H' dl = some (.lst us)
  hds : HTs wTup H' us ds
  dlen : ds.length = k
  dk : ∀ (j : Nat) (d : Wd), ds[j]? = some d → d.a < ins + j ∧ d.b < ins + j ∧ (d.w = "sum" ∨ d.w = "less")
  chg : Chg p H H'
  ntb : H tb = none
  ndl : H dl = none
  tp : tb ≠ p
  dp : dl ≠ p
  td : tb ≠ dl
structure WG (H : Hp) (p : Addr) (ins : Nat) (tb dl gl : Addr) (k : Nat) (vs us os : List V) (rs : List (List Int)) (ds : List Wd) (gs : List Go) (H' : Hp) : Prop where
  wi : WI H p ins tb dl k vs us rs ds H'
  hrs : HRs H' [gl, dl, tb, p] vs rs
  gll : H' gl = some (.lst os)
  hgs : HTs gTp H' os gs
  gk : ∀ g ∈ gs, g.th < ins + k
  ngl : H gl = none
  gp : gl ≠ p
  gd : gl ≠ dl
  gt : gl ≠ tb
end L2
set_option Elab.async false
set_option linter.all false
set_option maxRecDepth 100000
set_option maxHeartbeats 1000000
namespace L2
open PySem PySem.Spec
structure Wb (H : Hp) (w dl gl : Addr) (ins : Nat) (us : List V) (ds : List Wd) (os : List V) (gs : List Go) : Prop where
  tup : H w = some (.tup [.int ins, .ref dl, .ref gl])
  dll : H dl = some (.lst us)
  hds : HTs wTup H us ds
  gll : H gl = some (.lst os)
  hgs : HTs gTp H os gs
theorem Wb.same {H H' : Hp} {w dl gl : Addr} {ins : Nat} {us : List V} {ds : List Wd} {os : List V} {gs : List Go} (h : Wb H w dl gl ins us ds os gs) (s : Same H H') : Wb H' w dl gl ins us ds os gs :=
  ⟨s _ _ h.tup, s _ _ h.dll, h.hds.same s, s _ _ h.gll, h.hgs.same s⟩
theorem Wb.chg {H H' : Hp} {w dl gl l : Addr} {ins : Nat} {us xs : List V} {ds : List Wd} {os : List V} {gs : List Go} (h : Wb H w dl gl ins us ds os gs) (hl : H l = some (.lst xs)) (h1 : dl ≠ l) (h2 : gl ≠ l) (c : Chg l H H') : Wb H' w dl gl ins us ds os gs :=
  ⟨c _ _ (ne_of h.tup hl (by intro z; cases z)) h.tup, c _ _ h1 h.dll, h.hds.chgL hl c, c _ _ h2 h.gll, h.hgs.chgL hl c⟩
def sgW (w : Str) : Int := if w = "less" then -1 else 1
structure Ar where
  st : Nat
  go : Nat
  sh : Int
  sg : Int
def arrF (ins : Nat) : Nat → List Wd → List Ar
  | _, [] => []
  | k, d :: r => ⟨d.a, ins + k, d.s, 1⟩ :: ⟨d.b, ins + k, d.t, sgW d.w⟩ :: arrF ins (k + 1) r
inductive Rch (ins : Nat) (ds : List Wd) (gs : List Go) : Nat → Prop
  | root {g : Go} : g ∈ gs → g.sg ≠ 0 → Rch ins ds gs g.th
  | fst {k : Nat} {d : Wd} : ds[k]? = some d → Rch ins ds gs (ins + k) → Rch ins ds gs d.a
  | snd {k : Nat} {d : Wd} : ds[k]? = some d → Rch ins ds gs (ins + k) → Rch ins ds gs d.b
structure Us (ins : Nat) (ds : List Wd) (gs : List Go) (bs : List Bool) : Prop where
  len : bs.length = ins + ds.length
  iff : ∀ i, i < ins + ds.length → (bs[i]? = some true ↔ Rch ins ds gs i)
structure Ps (ins : Nat) (ds : List Wd) (gs : List Go) (i : Nat) (bs : List Bool) : Prop where
  len : bs.length = ins + ds.length
  snd : ∀ j, bs[j]? = some true → Rch ins ds gs j
  root : ∀ g ∈ gs, g.sg ≠ 0 → bs[g.th]? = some true
  clo : ∀ t a, 2 * ds.length - i ≤ t → (arrF ins 0 ds)[t]? = some a → bs[a.go]? = some true → bs[a.st]? = some true
structure Rt (ins : Nat) (ds : List Wd) (gs : List Go) (i : Nat) (bs : List Bool) : Prop where
  len : bs.length = ins + ds.length
  snd : ∀ j, bs[j]? = some true → Rch ins ds gs j
  root : ∀ k g, k < i → gs[k]? = some g → g.sg ≠ 0 → bs[g.th]? = some true
def spSnd : Sp := fun vs H Q _ => ∃ (x : Addr) (d : Wd), vs = [.ref x] ∧ H x = some (.tup (wTup d)) ∧ Q (.int (sgW d.w)) H
end L2
set_option Elab.async false
set_option linter.all false
set_option maxRecDepth 100000
set_option maxHeartbeats 1000000
namespace L2
open PySem PySem.Spec
section
variable {H : Hp} {Q : VK}
theorem w_pop {l : Addr} : rPop (.ref l) [] H Q = ∃ xs y, H l = some (.lst xs) ∧ xs[xs.length - 1]? = some y ∧ Q y (upd H l (.lst xs.dropLast)) :=
  propext ⟨fun ⟨l', xs, y, e, _, h, g, q⟩ => by cases e; exact ⟨xs, y, h, g, q⟩, fun ⟨xs, y, h, g, q⟩ => ⟨l, xs, y, rfl, rfl, h, g, q⟩⟩
theorem w_extend {l b : Addr} : rExtend (.ref l) [.ref b] H Q = ∃ xs zs, H l = some (.lst xs) ∧ H b = some (.lst zs) ∧ xs.length + zs.length ≤ sizeLine ∧ Q .non (upd H l (.lst (xs ++ zs))) :=
  propext ⟨fun ⟨l', b', xs, zs, e, e2, h⟩ => by cases e; cases e2; exact ⟨xs, zs, h⟩, fun ⟨xs, zs, h⟩ => ⟨l, b, xs, zs, rfl, rfl, h⟩⟩
theorem w_reverse {l : Addr} : rReverse (.ref l) [] H Q = ∃ xs, H l = some (.lst xs) ∧ Q .non (upd H l (.lst xs.reverse)) :=
  propext ⟨fun ⟨l', xs, e, _, h⟩ => by cases e; exact ⟨xs, h⟩, fun ⟨xs, h⟩ => ⟨l, xs, rfl, rfl, h⟩⟩
theorem w_clear {l : Addr} : rClear (.ref l) [] H Q = ∃ xs, H l = some (.lst xs) ∧ Q .non (upd H l (.lst [])) :=
  propext ⟨fun ⟨l', xs, e, _, h⟩ => by cases e; exact ⟨xs, h⟩, fun ⟨xs, h⟩ => ⟨l, xs, rfl, rfl, h⟩⟩
theorem w_cat {l b : Addr} : rCat (.ref l) (.ref b) H Q = ∃ xs zs, H l = some (.lst xs) ∧ H b = some (.lst zs) ∧ xs.length + zs.length ≤ sizeLine ∧ ∀ p, H p = none → Q (.ref p) (upd H p (.lst (xs ++ zs))) :=
  propext ⟨fun ⟨l', b', xs, zs, e, e2, h⟩ => by cases e; cases e2; exact ⟨xs, zs, h⟩, fun ⟨xs, zs, h⟩ => ⟨l, b, xs, zs, rfl, rfl, h⟩⟩
end
section
variable {X : Cx}
end
section
variable {K : PySem.W.Frag} {σ : St} {H : Hp} {Q : VK} {cs : List Nat} {tt : TT} {te : TE}
end
def fr (ms : List Nat) : Nat → Nat
  | 0 => 0
  | n + 1 => (if n ∈ ms then 0 else 1) + fr ms n
structure Sr (ins : Nat) (ds : List Wd) (gs : List Go) (ws ms : List Nat) : Prop where
  sw : ∀ x ∈ ws, Rch ins ds gs x ∧ x < ins + ds.length
  sm : ∀ x ∈ ms, Rch ins ds gs x
  rt : ∀ g ∈ gs, g.sg ≠ 0 → g.th ∈ ws ∨ g.th ∈ ms
  cl : ∀ k d, ds[k]? = some d → ins + k ∈ ms → (d.a ∈ ws ∨ d.a ∈ ms) ∧ (d.b ∈ ws ∨ d.b ∈ ms)
  ct : ms.length + fr ms (ins + ds.length) = ins + ds.length
theorem hts_isL {α : Type} {f : α → List V} {K : PySem.W.Frag} {H : Hp} (hf : ∀ a, (f a).all flatV = true) : ∀ {xs : List α} {vs : List V}, HTs f H vs xs → IsL K H vs (xs.map fun a => .t ((f a).map Dt.f))
  | [], vs, h => by
    have : vs = [] := List.eq_nil_of_length_eq_zero h.len
    subst this
    rw [List.map_nil, IsL]
  | a :: r, vs, h => by
    obtain ⟨p, h1, h2⟩ := h.at_ 0 a rfl
    cases vs with
    | nil => cases h1
    | cons v vs =>
      cases h1
      rw [List.map_cons, IsL]
      refine ⟨_, _, rfl, is_tup (SqT.of h2) (hf a), hts_isL hf ⟨by have := h.len; simpa using this, fun k x hx => ?_⟩⟩
      exact h.at_ (k + 1) x hx
def webDt (ins : Nat) (ds : List Wd) (gs : List Go) : Dt := .t [.f (.int ins), .l (ds.map fun d => .t ((wTup d).map Dt.f)), .l (gs.map fun g => .t ((gTp g).map Dt.f))]
theorem Wb.is {K : PySem.W.Frag} {H : Hp} {w dl gl : Addr} {ins : Nat} {us : List V} {ds : List Wd} {os : List V} {gs : List Go} (h : Wb H w dl gl ins us ds os gs) : Is K H (.ref w) (webDt ins ds gs) := by
  unfold webDt
  rw [Is]
  refine ⟨w, _, rfl, SqT.of h.tup, ?_⟩
  rw [IsL]
  refine ⟨_, _, rfl, by rw [Is]; exact ⟨rfl, rfl⟩, ?_⟩
  rw [IsL]
  refine ⟨_, _, rfl, ?_, ?_⟩
  · rw [Is]
    exact ⟨dl, us, rfl, SqL.of h.dll, hts_isL (fun _ => rfl) h.hds⟩
  · rw [IsL]
    refine ⟨_, _, rfl, ?_, by rw [IsL]⟩
    rw [Is]
    exact ⟨gl, os, rfl, SqL.of h.gll, hts_isL (fun _ => rfl) h.hgs⟩
theorem depL_tups {α : Type} {f : α → List V} : ∀ (xs : List α), depL (xs.map fun a => .t ((f a).map Dt.f)) ≤ 1
  | [] => by rw [List.map_nil, depL]; decide
  | a :: r => by
    rw [List.map_cons, depL, dep_t]
    have := depL_tups (f := f) r
    omega
structure Hd (H : Hp) (ex : List Addr) (hs : List V) : Prop where
  at_ : ∀ v ∈ hs, ∃ (q f d : Addr) (bs : List Bool), v = .ref q ∧ H q = some (.lst [.ref f, .ref d]) ∧ H f = some (.lst (bs.map V.bl)) ∧ H d = some (.lst (bs.map V.bl)) ∧ bs.length ≤ 200 ∧ ∀ e ∈ ex, q ≠ e ∧ f ≠ e ∧ d ≠ e
end L2
set_option Elab.async false
set_option linter.all false
set_option maxRecDepth 100000
set_option maxHeartbeats 1000000
namespace L2
open PySem PySem.Spec PyProof.Rows
section
variable {prog : Program} {w : World} {A : Around} {E : Value → Shared → Prop} {s : Shared}
structure ZG (xs ys : Array Value) (lo : Addr) (h : Heap) (as : List Addr) : Prop where
  above : ∀ a ∈ as, lo < a
  nd : as.Pairwise (· < ·)
  pair : ∀ (j : Nat) (a : Addr), as[j]? = some a → ∃ x y, xs[j]? = some x ∧ ys[j]? = some y ∧ IsPair h a x y
end
section
variable {prog : Program} {w : World} {A : Around} {s : Shared} {R : Result → Shared → Prop} {xs ys : Array Value} {z TI TO i1 i2 l1 l2 S lo : Addr}
end
section
variable {prog : Program} {w : World} {A : Around} {E : Value → Shared → Prop} {s : Shared} {xs ys : Array Value} {z TI TO i1 i2 l1 l2 : Addr}
end
def tLZ (K : PySem.W.Frag) (ta : TA) : TE := fun σ H Q => ta σ H fun vs H1 => ∃ a b us ws, vs = [.ref a, .ref b] ∧ SqL K H1 a us ∧ SqL K H1 b ws ∧ ws.length = us.length ∧ us.length ≤ 1000 ∧
  ∀ l zs H', H1 l = none → Same H1 H' → H' l = some (.lst zs) → zs.length = us.length → (∀ (k : Nat) (x y : V), us[k]? = some x → ws[k]? = some y → ∃ t : Addr, zs[k]? = some (.ref t) ∧ H' t = some (.tup [x, y])) → Q (.ref l) H'
theorem w_LZ {K : PySem.W.Frag} {ta : TA} {σ : St} {H : Hp} {Q : VK} : tLZ K ta σ H Q = (ta σ H fun vs H1 => ∃ a b us ws, vs = [.ref a, .ref b] ∧ SqL K H1 a us ∧ SqL K H1 b ws ∧ ws.length = us.length ∧ us.length ≤ 1000 ∧
  ∀ l zs H', H1 l = none → Same H1 H' → H' l = some (.lst zs) → zs.length = us.length → (∀ (k : Nat) (x y : V), us[k]? = some x → ws[k]? = some y → ∃ t : Addr, zs[k]? = some (.ref t) ∧ H' t = some (.tup [x, y])) → Q (.ref l) H') := rfl
end L2
set_option Elab.async false
set_option linter.all false
set_option maxRecDepth 100000
set_option maxHeartbeats 1000000
namespace L2
open PySem PySem.Spec
def rowD (rs : List (List Int)) (d : Wd) : List Int := List.zipWith (fun x y => mvI d.s x + sgW d.w * mvI d.t y) (rs.getD d.a []) (rs.getD d.b [])
def rowsW (ins : Nat) (ds : List Wd) : List (List Int) := ds.foldl (fun rs d => rs ++ [rowD rs d]) ((List.range ins).map (unitRow ins))
def Dv (s : Int) (r : List Int) : Prop := s < 0 → ∀ x ∈ r, (2 : Int) ^ (-s).toNat ∣ x
def Sh (s : Int) (r : List Int) : Prop := -40 ≤ s ∧ s ≤ 40 ∧ Dv s r
def ShOk (ins : Nat) (ds : List Wd) : Prop := ∀ (k : Nat) (d : Wd), ds[k]? = some d → d.a < ins + k ∧ d.b < ins + k ∧ Sh d.s ((rowsW ins ds).getD d.a []) ∧ Sh d.t ((rowsW ins ds).getD d.b [])
def GoOk (ins : Nat) (ds : List Wd) (gs : List Go) : Prop := ∀ g ∈ gs, g = ⟨0, 0, 0⟩ ∨ ((g.sg = 1 ∨ g.sg = -1) ∧ Sh g.sh ((rowsW ins ds).getD g.th []))
structure FWeb (ins : Nat) (ds : List Wd) (gs : List Go) : Prop where
  ok : WebOk ins ds gs
  sh : ShOk ins ds
  go : GoOk ins ds gs
  rb : RB (41 * ds.length) (rowsW ins ds)
  wd : ∀ r ∈ rowsW ins ds, r.length = ins
structure FI (H : Hp) (p : Addr) (ins : Nat) (tb dl : Addr) (k : Nat) (vs us : List V) (ds : List Wd) (H' : Hp) : Prop where
  wi : WI H p ins tb dl k vs us (rowsW ins ds) ds H'
  sh : ShOk ins ds
section
variable {K : PySem.W.Frag} {σ : St} {H : Hp} {Q : VK} {cs : List Nat} {te : TE}
end
structure FG (H : Hp) (p : Addr) (ins : Nat) (tb dl gl : Addr) (k : Nat) (vs us os : List V) (ds : List Wd) (gs : List Go) (H' : Hp) : Prop where
  wg : WG H p ins tb dl gl k vs us os (rowsW ins ds) ds gs H'
  sh : ShOk ins ds
  go : GoOk ins ds gs
end L2
set_option Elab.async false
set_option linter.all false
set_option maxRecDepth 100000
set_option maxHeartbeats 1000000
namespace L2
open PySem PySem.Spec
section
variable {K : PySem.W.Frag} {σ : St} {H : Hp} {Q : VK} {cs : List Nat} {te : TE}
end
end L2
set_option Elab.async false
set_option linter.all false
set_option maxRecDepth 100000
set_option maxHeartbeats 1000000
namespace L2
open PySem PySem.Spec
end L2
set_option Elab.async false
set_option linter.all false
set_option maxRecDepth 100000
set_option maxHeartbeats 1000000
namespace L2
open PySem PySem.Spec
section
variable {α : Type} {f : α → List V} {K : PySem.W.Frag} {H : Hp} {l l' : Addr} {ys ys' : List V} {xs : List α} {Q : VK}
end
end L2
set_option Elab.async false
set_option linter.all false
set_option maxRecDepth 100000
set_option maxHeartbeats 1000000
namespace L2
open PySem PySem.Spec PyProof.Rows
def tLR (ta : TA) : TE := fun σ H Q => ta σ H fun vs H1 => ∃ j : Nat, vs = [.int (j : Int)] ∧ j ≤ 1000 ∧ ∀ l H', H1 l = none → Same H1 H' → H' l = some (.lst (rngV 0 j)) → Q (.ref l) H'
theorem w_LR {ta : TA} {σ : St} {H : Hp} {Q : VK} : tLR ta σ H Q = (ta σ H fun vs H1 => ∃ j : Nat, vs = [.int (j : Int)] ∧ j ≤ 1000 ∧ ∀ l H', H1 l = none → Same H1 H' → H' l = some (.lst (rngV 0 j)) → Q (.ref l) H') := rfl
theorem vals_rng : ∀ (n k : Nat) (us : List Value), us.length = n → (∀ (j : Nat) (v : Value), us[j]? = some v → ∃ t, v = .int (0 + ((k + j : Nat) : Int) * 1) t) → Vals ((List.range' k n).map fun (i : Nat) => V.int (0 + (i : Int))) us
  | 0, k, us, hl, _ => by
    have : us = [] := List.eq_nil_of_length_eq_zero hl
    subst this
    exact .nil
  | n + 1, k, us, hl, hv => by
    cases us with
    | nil => cases hl
    | cons u us =>
      obtain ⟨t, e⟩ := hv 0 u rfl
      rw [List.range'_succ, List.map_cons]
      refine .cons ⟨t, by rw [e, Nat.add_zero, Int.mul_one]⟩ (vals_rng n (k + 1) us (by simpa using hl) fun j v h => ?_)
      obtain ⟨t, e⟩ := hv (j + 1) v h
      exact ⟨t, by rw [e, show k + (j + 1) = k + 1 + j by omega]⟩
theorem pe_listrange {X : Cx} {a : Expr} {ta : TA} {p q pos pos2 : Pos} (hc : X.calm = true) (hg : Gl X "list") (hm : X.mg "list" = none) (hg2 : Gl X "range") (hm2 : X.mg "range" = none) (ha : PA X [a] ta) (hs : starEach [a] X.env = [(false, eval a X.env)] := by rfl)
    (he : starEach [.Call (.Name "range" q) [a] [] pos2] X.env = (false, eval (.Call (.Name "range" q) [a] [] pos2) X.env) :: starEach [] X.env := by rfl) (hpl2 : (backTo pos (starEach [] X.env)).any (·.1) = false := by rfl) :
    PE X (.Call (.Name "list" p) [.Call (.Name "range" q) [a] [] pos2] [] pos) (tLR ta) := by
  intro pins s σ H Q I h
  refine Call_ (ld_blt I hg hm bo_list (PyProof.Rows.callWith_type1 ?_ he hpl2))
  rw [he]
  show wpAny _ _ (spliced ((false, eval (.Call (.Name "range" q) [a] [] pos2) X.env) :: backTo pos (starEach [] X.env))) _ _ s
  refine Calls.spliced_cons (Call_ (ld_blt I hg2 hm2 boot_range (PyProof.Rows.callWith_type1 (thn (ha pos2 pins s σ H _ I h) fun us s1 ⟨vs, H1, I1, r1, q1⟩ => ?_) hs rfl)))
  obtain ⟨j, e, hj, fin⟩ := q1
  subst e
  obtain ⟨u, rfl, ru⟩ := Vals.one r1
  obtain ⟨t, rfl⟩ := ru
  refine call_range_1 ?_
  show wpAny _ _ (spliced (backTo pos (starEach [] X.env))) _ _ _
  refine Calls.spliced_nil ?_
  have hsz : Builtin.Range.rangeSize 0 (j : Int) 1 = j := by
    unfold Builtin.Range.rangeSize
    rw [if_pos (by decide)]
    split <;> omega
  refine call_list_range (n := j) (I.ok.hd hc) (IsRange.new ..) ?_ hsz (by omega) fun h' tk acc c k' hS hit => ?_
  · exact small_one (by decide) (by decide) (by omega) (by omega)
  have k2 : ∀ b o, s1.heap.get? b = some o → h'.get? b = some o := fun b o e => k' b o (Heap.get?_push_of_some _ e)
  have lo : s1.heap.objs.size ≤ (s1.heap.push { cls := .type "range", data := .fields #[.int 0 s1.toks, .int (j : Int) t, .int 1 (s1.toks + 1)] }).objs.size := by rw [Heap.size_push]; exact Nat.le_succ _
  have rv : Vals (rngV 0 j) acc.toList := by
    have := vals_rng j 0 acc.toList (by rw [Array.length_toList]; exact hit.1) fun i v hv => by
      obtain ⟨t, e⟩ := hit.2 i v (by rw [← hv, Array.getElem?_toList])
      exact ⟨t, by rw [e, Nat.zero_add]⟩
    rw [← List.range_eq_range'] at this
    exact this
  have hn := I1.hok.fresh lo
  have IN := I1.laid (h' := h') (t' := tk) (o := .lst (rngV 0 j)) k2 lo ⟨le_size (by rw [rngV_len]; exact hj), acc.toList, c, rv, by rw [Array.toArray_toList]; exact hS⟩
  exact ⟨.ref _, _, IN, rfl, fin _ _ hn (same_new hn _) upd_same⟩
def iRngD (ta : TA) : TI := fun σ H R => ta σ H fun vs H1 => ∃ i : Int, vs = [.int i, .int (-1), .int (-1)] ∧ (-1 ≤ i ∧ i < 2 ^ 31) ∧ R (Itr3 i (-1) (i + 1).toNat) H1
theorem w_forD {σ : St} {H : Hp} {D : Ends} {g : TG} {tb : TS} {ta : TA} : tFor (iRngD ta) g tb D σ H = (ta σ H fun vs H1 => ∃ i : Int, vs = [.int i, .int (-1), .int (-1)] ∧ (-1 ≤ i ∧ i < 2 ^ 31) ∧ ForR3 i (-1) (i + 1).toNat g tb D σ H1) := rfl
def keptN (bs : List Bool) (ins : Nat) : Nat → Nat
  | 0 => 0
  | k + 1 => keptN bs ins k + (if bs.getD (ins + k) false = true then 1 else 0)
def renN (bs : List Bool) (ins j : Nat) : Nat := if j < ins then j else ins + keptN bs ins (j - ins)
section
variable {K : PySem.W.Frag} {σ : St} {H : Hp} {Q : VK} {cs : List Nat} {te : TE}
end
end L2
set_option Elab.async false
set_option linter.all false
set_option maxRecDepth 100000
set_option maxHeartbeats 1000000
namespace L2
open PySem PySem.Spec PyProof.Rows
section
variable {prog : Program} {w : World} {A : Around} {E : Value → Shared → Prop} {s : Shared}
end
section
variable {prog : Program} {w : World} {A : Around} {E : Value → Shared → Prop} {s : Shared}
end
def Itzt (K : PySem.W.Frag) (a b : Addr) : It :=
  ⟨fun i H => ∃ xs ys, SqT K H a xs ∧ SqT K H b ys ∧ i < xs.length ∧ i < ys.length,
   fun i H x H' => ∃ T u v, x = .ref T ∧ H T = none ∧ H' = upd H T (.tup [u, v]) ∧ (∀ xs, SqT K H a xs → xs[i]? = some u) ∧ (∀ ys, SqT K H b ys → ys[i]? = some v),
   fun i H => ∃ xs ys, SqT K H a xs ∧ SqT K H b ys ∧ (xs.length ≤ i ∨ ys.length ≤ i)⟩
def iZip2 (K : PySem.W.Frag) (ta : TA) : TI := fun σ H R => ta σ H fun vs H1 => ∃ a b xs ys, vs = [.ref a, .ref b] ∧ ((SqL K H1 a xs ∧ SqL K H1 b ys ∧ R (Itz K a b) H1) ∨ (SqT K H1 a xs ∧ SqT K H1 b ys ∧ R (Itzt K a b) H1))
theorem w_compZ2 {K : PySem.W.Frag} {σ : St} {H : Hp} {Q : VK} {ta : TA} {nt : Nat} {cs : List Nat} {g : TG} {tt : TT} {te : TE} : tComp (iZip2 K ta) nt cs g tt te σ H Q = (ta σ H fun vs H1 => ∃ a b xs ys, vs = [.ref a, .ref b] ∧ ((SqL K H1 a xs ∧ SqL K H1 b ys ∧ CompIt (Itz K a b) nt cs g tt te σ H1 Q) ∨ (SqT K H1 a xs ∧ SqT K H1 b ys ∧ CompIt (Itzt K a b) nt cs g tt te σ H1 Q))) := rfl
end L2
set_option Elab.async false
set_option linter.all false
set_option maxRecDepth 100000
set_option maxHeartbeats 1000000
namespace L2
open PySem PySem.Spec PyProof.Rows
structure Gt (ins : Nat) (ds : List Wd) (gs : List Go) (i : Nat) (ms : List Nat) : Prop where
  sd : ∀ x ∈ ms, Rch ins ds gs x
  rt : ∀ g ∈ gs, g.sg ≠ 0 → g.th ∈ ms
  cl : ∀ k d, ds[k]? = some d → ds.length ≤ k + i → ins + k ∈ ms → d.a ∈ ms ∧ d.b ∈ ms
  ln : ms.length ≤ gs.length + 2 * i
def kp (bs : List Bool) (ins j : Nat) : Prop := j < ins ∨ bs[j]? = some true
instance (bs : List Bool) (ins j : Nat) : Decidable (kp bs ins j) := by unfold kp; infer_instance
structure An (bs : List Bool) (ins m : Nat) (kvs : List (Key × V)) : Prop where
  len : kvs.length = renN bs ins m
  val : ∀ j : Nat, valV kvs (.inl (j : Int)) = if j < m ∧ kp bs ins j then some (.int (renN bs ins j : Nat)) else none
section
variable {ins : Nat} {ds : List Wd} {gs : List Go} {bs : List Bool}
end
section
variable {K : PySem.W.Frag} {σ : St} {H : Hp} {Q : VK} {cs : List Nat} {te : TE}
end
end L2
set_option Elab.async false
set_option linter.all false
set_option maxRecDepth 100000
set_option maxHeartbeats 1000000
namespace L2
open PySem PySem.Spec PyProof.Rows
def TrX (h : Heap) (e : Addr) (C : Value) (d : Option Addr) (T : Addr) : Prop :=
  ∃ oe vs oT ts, h.get? e = some oe ∧ oe.cls = C ∧ oe.dict = d ∧ oe.data = .fields vs ∧ vs[1]? = some (.ref T) ∧ T ≠ e ∧ h.get? T = some oT ∧ oT.data = .fields ts ∧ ts[3]? = some .none
def NwX (h : Heap) (e : Addr) (C : Value) (d : Option Addr) : Prop := ∃ oe vs, h.get? e = some oe ∧ oe.cls = C ∧ oe.dict = d ∧ oe.data = .fields vs ∧ vs[1]? = some .none
structure Lv (fr : List Addr) (e : Addr) (C : Value) (d : Option Addr) (T : Option Addr) (h h' : Heap) : Prop where
  keep : ∀ b o, b ∉ fr → b ≠ e → some b ≠ T → h.get? b = some o → h'.get? b = some o
  slot : ∀ b o, b ∈ fr → h.get? b = some o → ∃ sl, h'.get? b = some { o with slots := sl }
  exc : TrX h' e C d h.objs.size
section
variable {M : Model} {A : Around} {E : Value → Shared → Prop} {s : Shared} {base : Heap} {env : Env} {outer : List Env} {L e : Addr} {oe : Obj} {vs : Array Value} {Q : Unit → Shared → Prop}
theorem lv_entry {head : Value} {hadNext : Bool} (hfr : A.frames = some (env :: outer)) (hl : s.heap.FunFrames base (env :: outer)) (hf : env.frame = some L)
    (he : s.heap.get? e = some oe) (hd : oe.data = .fields vs) (hsz : 1 < vs.size)
    (h : ∀ h', Lv ((env :: outer).filterMap (·.frame)) e oe.cls oe.dict none s.heap h' → Q () { s with heap := h' }) :
    wpAny M A (do let a ← frameOf env; let pl ← entryPlaceOf L hadNext; let b ← EntryCells.newEntry head a .none (rawInt L) .none pl; setField (.ref e) 1 b) (fun _ s' => wpAny M A (setFlight (.ref e) none) Q E s') E s := by
  have hene : e ∉ (env :: outer).filterMap (·.frame) := fun hm => by
    obtain ⟨_, o, ho, hnf⟩ := hl.mem hm
    rw [he] at ho; injection ho with ho; subst ho; exact hnf vs hd
  refine wpAny_bind (wpAny_frameOf_fun hfr hl hf fun h1 s1 => ?_)
  refine wpAny_bind (wpAny_entryPlaceOf fun pl hpl => ?_)
  unfold EntryCells.newEntry newFields
  refine wpAny_bind (wpAny_newObj_type ?_ (hpl.sizeOk5 _ _ _ _ _))
  have e1 : h1.get? e = some oe := (s1.2.1 e hene).trans he
  generalize hob : ({ cls := .type "traceback", dict := none, data := .fields ([head, .ref L, .none, rawInt L, .none] ++ (if pl.isEmpty then List.replicate 6 Value.none else pl)).toArray } : Obj) = ob
  have e2 := Heap.get?_push_of_some (h := h1) ob e1
  refine wpAny_setField e2 hd hsz ?_
  have hTe : h1.objs.size ≠ e := Nat.ne_of_gt (Heap.lt_size e1)
  have d3 := Obj.data_mapFields hd (·.setIfInBounds 1 (Value.ref h1.objs.size))
  have e3 := Heap.get?_update_self (Obj.mapFields (·.setIfInBounds 1 (Value.ref h1.objs.size))) e2 (Obj.isFreed_of_fields d3)
  have hobd : ob.data = .fields ([head, .ref L, .none, rawInt L, .none] ++ (if pl.isEmpty then List.replicate 6 Value.none else pl)).toArray := by rw [← hob]
  have T3 := (Heap.get?_update_other (h1.push ob) (Obj.mapFields (·.setIfInBounds 1 (Value.ref h1.objs.size))) (Ne.symm hTe)).trans (Heap.get?_push_size h1 (by rw [← hob]; rfl))
  unfold setFlight
  refine wpAny_bind (wpAny_field e3 d3 (x := .ref h1.objs.size) (by simp [hsz]) ?_)
  rw [if_pos (show (Value.ref h1.objs.size != Value.none) = true from by simp)]
  refine wpAny_setField T3 hobd (by simp only [List.size_toArray, List.length_append, List.length_cons, List.length_nil] <;> omega) (h _ ?_)
  have keep : ∀ b o, b ≠ e → h1.get? b = some o → (((h1.push ob).update e (Obj.mapFields (·.setIfInBounds 1 (Value.ref h1.objs.size)))).update h1.objs.size (Obj.mapFields (·.setIfInBounds 3 ((none : Option Addr).elim Value.none fun f => rawInt f)))).get? b = some o := fun b o hbe hb => by
    have hbT : h1.objs.size ≠ b := Nat.ne_of_gt (Heap.lt_size hb)
    rw [Heap.get?_update_other _ _ hbT, Heap.get?_update_other _ _ (Ne.symm hbe)]
    exact Heap.get?_push_of_some _ hb
  refine ⟨fun b o hb hbe _ hg => keep b o hbe ((s1.2.1 b hb).trans hg), fun b o hb hg => ?_, ?_⟩
  · obtain ⟨sl, hs⟩ := s1.2.2 b o hg
    exact ⟨sl, keep b _ (fun z => hene (z ▸ hb)) hs⟩
  · rw [← s1.1]
    refine ⟨_, _, _, _, ?_, Obj.cls_mapFields _ _, ?_, d3, by simp [hsz], hTe, Heap.get?_update_self _ T3 (Obj.isFreed_of_fields (Obj.data_mapFields hobd _)), Obj.data_mapFields hobd _, by first | (simp; done) | (rcases hpl with rfl | ⟨_, _, _, _, _, _, _, rfl⟩ <;> simp)⟩
    · rw [Heap.get?_update_other _ _ hTe]; exact e3
    · obtain ⟨oc, od, dt, sl⟩ := oe
      cases hd
      rfl
theorem lv_first {C : Value} {d : Option Addr} (hfr : A.frames = some (env :: outer)) (hl : s.heap.FunFrames base (env :: outer)) (hf : env.frame = some L) (he : NwX s.heap e C d)
    (h : ∀ h', Lv ((env :: outer).filterMap (·.frame)) e C d none s.heap h' → Q () { s with heap := h' }) : wpAny M A (leaving env (.ref e)) Q E s := by
  obtain ⟨oe, vs, he, rfl, rfl, hd, h1⟩ := he
  unfold leaving noteFrame
  simp only [hf]
  refine wpAny_bind (wpAny_bind (wpAny_field he hd h1 ?_))
  rw [if_neg (by decide)]
  exact lv_entry hfr hl hf he hd (Array.getElem?_eq_some_iff.mp h1).1 h
theorem lv_nextN {C : Value} {d : Option Addr} {T : Addr} (hfr : A.frames = some (env :: outer)) (hl : s.heap.FunFrames base (env :: outer)) (hf : env.frame = some L) (ht : TrX s.heap e C d T)
    (h : ∀ h', Lv ((env :: outer).filterMap (·.frame)) e C d (some T) s.heap h' → Q () { s with heap := h' }) : wpAny M A (noteFrame (.ref e) env) (fun _ s' => wpAny M A (setFlight (.ref e) none) Q E s') E s := by
  obtain ⟨oe, vs, oT, ts, he, rfl, rfl, hd, h1, hTe, hT, hdT, h3⟩ := ht
  unfold noteFrame
  simp only [hf]
  refine wpAny_bind (wpAny_field he hd h1 ?_)
  rw [if_pos (show (Value.ref T != Value.none) = true from by simp)]
  refine wpAny_bind (wpAny_field hT hdT h3 ?_)
  rw [if_neg (show ¬ ((Value.none == rawInt L) = true) from by simp [rawInt])]
  refine wpAny_bind (wpAny_setField hT hdT (Array.getElem?_eq_some_iff.mp h3).1 ?_)
  have other : ∀ b, b ≠ T → (s.heap.update T (Obj.mapFields (·.setIfInBounds 3 Value.none))).get? b = s.heap.get? b := fun b hb => Heap.get?_update_other _ _ (Ne.symm hb)
  have noT : ∀ b o, s.heap.get? b = some o → (∀ vs, o.data ≠ .fields vs) → b ≠ T := fun b o hb hnf q => by
    rw [q, hT] at hb; injection hb with hb; subst hb; exact hnf ts hdT
  have frT : ∀ b ∈ (env :: outer).filterMap (·.frame), b ≠ T := fun b hb => by
    obtain ⟨_, o, ho, hnf⟩ := hl.mem hb
    exact noT b o ho hnf
  refine lv_entry hfr (hl.of_keeps fun b o hb hnf => ⟨o, (other b (noT b o hb hnf)).trans hb, rfl⟩) hf ((other e (Ne.symm hTe)).trans he) hd (Array.getElem?_eq_some_iff.mp h1).1 fun h' z => h h' ⟨fun b o hb hbe hbT hg => ?_, fun b o hb hg => ?_, ?_⟩
  · exact z.keep b o hb hbe (by simp) ((other b (fun q => hbT (by rw [q]))).trans hg)
  · exact z.slot b o hb ((other b (frT b hb)).trans hg)
  · have := z.exc
    rw [Heap.size_update] at this
    exact this
theorem lv_next {C : Value} {d : Option Addr} {T : Addr} (hfr : A.frames = some (env :: outer)) (hl : s.heap.FunFrames base (env :: outer)) (hf : env.frame = some L) (ht : TrX s.heap e C d T)
    (h : ∀ h', Lv ((env :: outer).filterMap (·.frame)) e C d (some T) s.heap h' → Q () { s with heap := h' }) : wpAny M A (leaving env (.ref e)) Q E s := by
  unfold leaving
  exact wpAny_bind (lv_nextN hfr hl hf ht h)
end
def CXe (P : Program) (w : World) (base : Heap) : CXT := fun outer H s E e s' => ∃ (x T : Addr) (C : Value) (d : Option Addr) (H' : Hp), e = .ref x ∧ s'.os = s.os ∧ AllBare s'.gens ∧ Un (frs outer) [] H H' s.heap s'.heap ∧ HOk P w H' s'.heap ∧
  TrX s'.heap x C d T ∧ s.heap.get? x = none ∧ s.heap.get? T = none ∧ H' x = none ∧ H' T = none ∧ E C d H'
def Raises (X : Cx) (E : XK) : Prop := ∀ (pins : List (Addr × Obj)) (σ : St) (H : Hp) (s : Shared) (e : Addr) (C : Value) (d : Option Addr), Inv X pins σ H s → NwX s.heap e C d → H e = none → X.s₀.heap.get? e = none → E C d H → X.xe (.ref e) s
section
variable {P : Program} {w : World} {K : PySem.W.Frag} {mg : Str → Option Value} {base : Heap} {N : List Str} {qual : Str} {scope : Scope} {f : Addr} {cd : Value} {A : Around} {outer : List Env} {s : Shared} {H : Hp} {E : XK}
theorem leave_ok {pins : List (Addr × Obj)} {σ : St} {H' : Hp} {s' : Shared} {h' : Heap} {x : Addr} {C : Value} {d : Option Addr} {To : Option Addr}
    (I : Inv (cxOf (CXe P w base) P w K mg base N qual scope f cd A outer s H E) pins σ H' s') (l : Lv ((envOfC qual scope s.heap.objs.size f cd :: outer).filterMap (·.frame)) x C d To s'.heap h')
    (hx : s.heap.get? x = none) (hn : H' x = none) (hT : ∀ T, To = some T → s.heap.get? T = none ∧ H' T = none) (he : E C d H') : CXe P w base outer H s E (.ref x) { s' with heap := h' } := by
  have st : (cxOf (CXe P w base) P w K mg base N qual scope f cd A outer s H E).stack = envOfC qual scope s.heap.objs.size f cd :: outer := rfl
  have inS : ∀ b, b ∈ (envOfC qual scope s.heap.objs.size f cd :: outer).filterMap (·.frame) → b = s.heap.objs.size ∨ b ∈ frs outer := fun b hb => by
    have := I.stkSub b hb
    exact List.mem_cons.mp this
  have oldS : ∀ b o, s.heap.get? b = some o → b ∉ frs outer → b ∉ (envOfC qual scope s.heap.objs.size f cd :: outer).filterMap (·.frame) := fun b o e hb z => by
    rcases inS b z with q | q
    · exact absurd (Heap.lt_size e) (by rw [q]; exact Nat.lt_irrefl _)
    · exact hb q
  have ltx : ∀ b o, s.heap.get? b = some o → b ≠ x := fun b o e z => by rw [z, hx] at e; cases e
  have ltT : ∀ b o, s.heap.get? b = some o → some b ≠ To := fun b o e z => by rw [(hT b z.symm).1] at e; cases e
  have sub : ∀ b, b ∈ frs outer → b ∈ (envOfC qual scope s.heap.objs.size f cd :: outer).filterMap (·.frame) := fun b hb => by
    rw [List.filterMap_cons]
    split
    · exact hb
    · exact List.mem_cons_of_mem _ hb
  refine ⟨x, s'.heap.objs.size, C, d, H', rfl, I.os, I.bare, ⟨fun b o e n hb hx' => ?_, fun b o e n hb hx' => ?_, fun b o e n hx' => I.base.free b o e n hx', fun b o e hx' => ?_, I.base.tups, I.base.frzs, I.base.tbls⟩, fun b u q => ?_, l.exc, hx, Heap.get?_none_of_le I.sz, hn, I.hok.fresh (Nat.le_refl _), he⟩
  · exact l.keep b o (oldS b o e hb) (ltx b o e) (ltT b o e) (I.base.keep b o e n hb hx')
  · obtain ⟨sl, e1⟩ := I.base.slot b o e n hb hx'
    obtain ⟨sl2, e2⟩ := l.slot b _ (sub b hb) e1
    exact ⟨sl2, e2⟩
  · obtain ⟨o', e1⟩ := I.base.there b o e hx'
    by_cases hb : b ∈ (envOfC qual scope s.heap.objs.size f cd :: outer).filterMap (·.frame)
    · obtain ⟨sl, e2⟩ := l.slot b o' hb e1
      exact ⟨_, e2⟩
    · exact ⟨o', l.keep b o' hb (ltx b o e) (ltT b o e) e1⟩
  · have trk : ∀ c v, H' c = some v → c ∉ (envOfC qual scope s.heap.objs.size f cd :: outer).filterMap (·.frame) ∧ c ≠ x ∧ some c ≠ To := fun c v e => by
      refine ⟨fun z => ?_, fun z => ?_, fun z => ?_⟩
      · have := I.stkFree c z
        rw [e] at this
        cases this
      · rw [z, hn] at e
        cases e
      · rw [(hT c z.symm).2] at e
        cases e
    refine (I.hok b u q).stay (fun c v hc e => ?_) (fun _ z => z) fun _ _ z => z
    have tc : ∃ v, H' c = some v := by
      rcases hc with z | z
      · rw [z]; exact ⟨_, q⟩
      · exact ⟨_, z⟩
    obtain ⟨v', hv⟩ := tc
    obtain ⟨n1, n2, n3⟩ := trk c v' hv
    exact l.keep c v n1 n2 n3 e
theorem old_none {pins : List (Addr × Obj)} {σ : St} {H' : Hp} {s' : Shared} {x : Addr} (I : Inv (cxOf (CXe P w base) P w K mg base N qual scope f cd A outer s H E) pins σ H' s') (h : s'.heap.get? x = none) : s.heap.get? x = none := by
  cases q : s.heap.get? x with
  | none => rfl
  | some o =>
    obtain ⟨o', e⟩ := I.base.there x o q (by intro z; cases z)
    rw [h] at e
    cases e
theorem raises_of : Raises (cxOf (CXe P w base) P w K mg base N qual scope f cd A outer s H E) E := by
  intro pins σ H' s' e C d I hw hn hs he
  exact lv_first (base := base) (L := s.heap.objs.size) I.ok.frames I.stack rfl hw fun h' l => leave_ok I l hs hn (fun T z => by cases z) he
theorem passes_of : Passes (CXe P w base) (cxOf (CXe P w base) P w K mg base N qual scope f cd A outer s H E) E := by
  intro pins σ H1 s1 e s' I hc
  obtain ⟨x, T, C, d, H', rfl, os, bare, un, hok, tr, hx, hT, nx, nT, he⟩ := hc
  have J := I.call' os un hok bare (fun b z => absurd z (by simp))
  exact lv_next (base := base) (L := s.heap.objs.size) J.ok.frames J.stack rfl tr fun h' l => leave_ok J l (old_none I hx) nx (fun T' z => by cases z; exact ⟨old_none I hT, nT⟩) he
end
structure CalX (P : Program) (w : World) (K : PySem.W.Frag) (mg : Str → Option Value) (base : Heap) (k : Nat) (x : Str) (ps : List Str) (sp : Sp) : Prop where
  ex : ∃ (f : Addr) (fd : FuncData), FnOk P w K mg base (CXe P w base) k f fd ps sp ∧ mg x = some (.ref f) ∧ PySem.W.keepIn K (.ref f) = true ∧ Binds K fd ps []
theorem CalX.mono {P : Program} {w : World} {K : PySem.W.Frag} {mg : Str → Option Value} {base : Heap} {j k : Nat} {x : Str} {ps : List Str} {sp : Sp} (C : CalX P w K mg base j x ps sp) (h : j ≤ k) : CalX P w K mg base k x ps sp := by
  obtain ⟨f, fd, a, b, c, d⟩ := C.ex
  exact ⟨f, fd, a.mono h, b, c, d⟩
section
variable {X : Cx} {k : Nat} {x : Str} {ps : List Str} {sp : Sp} {e : Expr} {es : List Expr} {t : TA} {p pos : Pos} {E : XK}
theorem pe_calX (E : XK) (C : CalX X.prog X.w X.K X.mg X.base k x ps sp) (hp : Passes (CXe X.prog X.w X.base) X E) (hr : Room k X.A) (hg : Gl X x) (ha : PA X (e :: es) t) (hd : (x == ("__debug__" : Str)) = false := by decide)
    (he : starEach (e :: es) X.env = (false, eval e X.env) :: starEach es X.env := by rfl) (hpl : (backTo pos (starEach es X.env)).any (·.1) = false := by rfl) : PE X (.Call (.Name x p) (e :: es) [] pos) (tCall sp [] E t) := by
  obtain ⟨f, fd, a, b, c, d⟩ := C.ex
  exact pe_call a hr hg b c d .nil hp ha hd he hpl
end
section
variable {P : Program} {w : World} {K : PySem.W.Frag} {mg : Str → Option Value} {base : Heap}
theorem mkCalX {x qual : Str} {st : Stmt} {N ps : List Str} {k : Nat} {sp : Sp} (T : ∃ (f : Addr) (fd : FuncData), Fun K x qual st f fd ∧ mg x = some (.ref f) ∧ Binds K fd ps []) (S : FnScope N ps (defScope st)) (len : ∀ vs H Q E, sp vs H Q E → vs.length = ps.length)
    (hbody : ∀ (f : Addr) (cdv : Value) (A : Around) (outer : List Env) (s : Shared) (H : Hp) (vs : List V) (Q : VK) (E : XK), Room k (A.deeper (envOfC qual (defScope st) s.heap.objs.size f cdv)) → sp vs H Q E →
      ∃ t, PSs (cxOf (CXe P w base) P w K mg base N qual (defScope st) f cdv A outer s H E) (defBody st) t ∧ t { nx := fun _ H' => Q .non H', rt := Q } (start N vs) H) : CalX P w K mg base (k + 1) x ps sp := by
  obtain ⟨f, fd, F, m, b⟩ := T
  obtain ⟨oc, od, kV, doc, pm, an, cdv, ct, osl, rfl, lk, hcd⟩ := F.ex
  exact ⟨f, _, fn_of lk hcd S len fun A outer s H vs Q E hr hsp => hbody f cdv A outer s H vs Q E hr hsp, m, F.kp, b⟩
end
end L2
set_option Elab.async false
set_option linter.all false
set_option maxRecDepth 100000
set_option maxHeartbeats 1000000
namespace L2
open PySem PySem.Spec PyProof.Rows
theorem exc_obj {K : PySem.W.Frag} {h : Heap} {C : Addr} {bmB : List Value} {newId : String} (X : K.In h) (q : PySem.W.excIn K C bmB newId = true) :
    ∃ bm N nm q bs hdct sn sub ab col dd k0 k1 k2 k3 k5 mN, h.get? C = some (excClassObj nm q C N bs bm hdct sn sub ab col dd k0 k1 k2 k3 k5 newId) ∧ h.Ns N mN ∧ mN "__init__" = none ∧ OwnTail h bmB bm := by
  unfold PySem.W.excIn at q
  split at q
  · rename_i dd cd sl ho
    split at q
    · rename_i C' bm k0 k1 k2 k3 n k5 hm hs
      simp only [Bool.and_eq_true, beq_iff_eq, Bool.not_eq_true'] at q
      obtain ⟨⟨⟨⟨⟨rfl, rfl⟩, hdel⟩, ht⟩, hok⟩, hni⟩ := q
      obtain ⟨nm, bs, mro, ns, qn, hd, sn, sub, ab, col, del⟩ := cd
      dsimp only at hm hdel hok hni
      subst hm hdel
      have hsl : sl = #[k0, k1, k2, k3, some (.builtin n), k5] := by
        obtain ⟨l⟩ := sl
        simp only at hs
        rw [hs]
      subst hsl
      exact ⟨bm, ns, nm, qn, bs, hd, sn, sub, ab, col, dd, k0, k1, k2, k3, k5, _, X _ _ ho, .of_isNs (PySem.W.isNs_of_in X hok), PySem.W.nsMap_none_of_in X hok hni, PySem.W.tail_of_in X ht⟩
    · cases q
  · cases q
theorem ObjOk.there {P : Program} {w : World} {H : Hp} {h : Heap} {a : Addr} {o : HO} (x : ObjOk P w H h a o) : ∃ u, h.get? a = some u := by
  cases o with
  | lst xs => obtain ⟨_, _, _, _, e⟩ := x; exact ⟨_, e⟩
  | tup xs => obtain ⟨_, _, _, o, e, _⟩ := x; exact ⟨_, e⟩
  | dK kvs => obtain ⟨_, _, _, _, o, _, _, e, _⟩ := x; exact ⟨_, e⟩
  | dT kvs => obtain ⟨_, _, _, _, o, _, _, e, _⟩ := x; exact ⟨_, e⟩
  | set S n => obtain ⟨o, _, _, _, e, _⟩ := x; exact ⟨_, e⟩
  | ins C dx fs => obtain ⟨_, _, _, e, _⟩ := x; exact ⟨_, e⟩
  | own y => obtain ⟨_, e⟩ := x; exact ⟨_, e⟩
  | xd fs => obtain ⟨_, ⟨_, _, _, e, _⟩, _⟩ := x; exact ⟨_, e⟩
  | rng lo hi => obtain ⟨_, _, _, e⟩ := x; exact ⟨_, e⟩
  | frz ob u => obtain ⟨e, _⟩ := x; exact ⟨_, e⟩
  | tbl ps => exact ⟨_, show h.get? a = some _ from x⟩
  | met f y => exact ⟨_, show h.get? a = some _ from x⟩
  | ext φ => obtain ⟨_, ⟨_, e⟩, _⟩ := x; exact ⟨_, e⟩
theorem hok_none {P : Program} {w : World} {H : Hp} {h : Heap} {a : Addr} (k : HOk P w H h) (n : h.get? a = none) : H a = none := by
  cases q : H a with
  | none => rfl
  | some o =>
    obtain ⟨u, e⟩ := ObjOk.there (k a o q)
    rw [n] at e
    cases e
def tRaise (E : XK) (C : Addr) (ta : TA) : TS := fun _ σ H => ta σ H fun vs H1 => vs.length ≤ sizeLine ∧ E (.ref C) none H1
theorem w_raise {E : XK} {C : Addr} {ta : TA} {D : Ends} {σ : St} {H : Hp} : tRaise E C ta D σ H = (ta σ H fun vs H1 => vs.length ≤ sizeLine ∧ E (.ref C) none H1) := rfl
theorem ps_raise {X : Cx} {E : XK} {x : Str} {C : Addr} {bmB : List Value} {newId initId B : String} {np cpos pos : Pos} {e : Expr} {es : List Expr} {ta : TA} (hE : Raises X E) (hq : PySem.W.excIn X.K C bmB newId = true) (FB : ExcBaseFacts B newId initId bmB)
    (hc : X.calm = true) (hex : ∀ b, b ∉ X.ex) (hg : Gl X x) (hm : X.mg x = some (.ref C)) (ha : PA X (e :: es) ta) (hd : (x == ("__debug__" : Str)) = false := by decide)
    (he : starEach (e :: es) X.env = (false, eval e X.env) :: starEach es X.env := by rfl) (hpl : (backTo cpos (starEach es X.env)).any (·.1) = false := by rfl) :
    PS X (.Raise (some (.Call (.Name x np) (e :: es) [] cpos)) none pos) (tRaise E C ta) := by
  intro pins s σ H D I h
  obtain ⟨bm, N, nm, q, bs, hdct, sn, sub, ab, col, dd, k0, k1, k2, k3, k5, mN, hC, hN, hni, T⟩ := exc_obj I.kIn hq
  obtain ⟨bm0, N0, nm0, q0, bs0, hdct0, sn0, sub0, ab0, col0, dd0, k00, k10, k20, k30, k50, mN0, hC0, hN0, hni0, T0⟩ := exc_obj I.ok.mod.kin hq
  have hb0 := hC0
  refine wpAny_Raise_call_subT (C := C) (nm := nm0) (q := q0) (N := N0) (bs := bs0) (bm := bm0) (hdct := hdct0) (sn := sn0) (sub := sub0) (ab := ab0) (col := col0) (dd := dd0) (k0 := k00) (k1 := k10) (k2 := k20) (k3 := k30) (k5 := k50)
    FB (mN := mN0) (T0.hasType FB.hasBase) (I.ok.hd hc) (by rw [he]; show (false || (backTo cpos (starEach es X.env)).any (·.1)) = false; rw [hpl]; rfl) hni0 (ld_glob I hg hm ⟨rfl, ?_⟩ hd)
  have h2 := ha cpos pins s σ H _ I h
  rw [he] at h2 ⊢
  refine Calls.evalArgs_plain (wpAny_mono h2 (fun us s1 h1 => ?_) fun _ _ y => y)
  obtain ⟨vs, H1, I1, rv, hz, hE1⟩ := h1
  refine ⟨rfl, by rw [← rv.length]; exact hz, I1.bk _ _ hC0, hN0.keeps I1.bk, T0.keeps I1.bk, fun h' x' hm' => ?_⟩
  obtain ⟨t, ht, _, _⟩ := hm'.there
  have n0 : X.s₀.heap.get? x' = none := by
    cases q : X.s₀.heap.get? x' with
    | none => rfl
    | some o =>
      obtain ⟨o', e'⟩ := I1.base.there x' o q (hex x')
      rw [hm'.new] at e'
      cases e'
  exact hE pins σ H1 _ x' (.ref C) none (I1.kept (t' := s1.toks) hm'.keeps) ⟨_, _, ht, rfl, rfl, rfl, rfl⟩ (hok_none I1.hok hm'.new) n0 hE1
section
variable {M : Model} {A : Around} {E : Value → Shared → Prop}
theorem exc_match {h : Heap} {g : Array GenState} {d : Drawn} {t : Nat} {os : OsState} {e : Addr} {oe : Obj} {Q : Bool → Shared → Prop}
    {nm q : Str} {C N : Addr} {bs bm : List Value} {hdct : Bool} {sn : List Str} {sub : List Value} {ab : Bool} {col : Option Bool} {dd : Option Addr} {k0 k1 k2 k3 k5 : Option Value} {newId : String}
    {nm' q' : Str} {B N' : Addr} {bs' bm' : List Value} {hdct' : Bool} {sn' : List Str} {sub' : List Value} {ab' : Bool} {col' : Option Bool} {dd' : Option Addr} {k0' k1' k2' k3' k5' : Option Value} {newId' : String}
    (hC : h.get? C = some (excClassObj nm q C N bs bm hdct sn sub ab col dd k0 k1 k2 k3 k5 newId)) (hB : h.get? B = some (excClassObj nm' q' B N' bs' bm' hdct' sn' sub' ab' col' dd' k0' k1' k2' k3' k5' newId'))
    (he : h.get? e = some oe) (hcls : oe.cls = .ref C) (hbase : bm'.contains (.type "BaseException") = true) (hq : Q ((Value.ref C :: bm).contains (.ref B)) ⟨h, g, d, t, os⟩) : wpAny M A (excMatches (.ref e) (.ref B)) Q E ⟨h, g, d, t, os⟩ := by
  have hcB : (Value.ref B :: bm').contains (.type "BaseException") = true := by rw [List.contains_cons, hbase, Bool.or_true]
  have f := tc_notTuple
  unfold excMatches
  repeat (first | (with_reducible refine wpAny_loadPart_at he ?_; rw [hcls]) | with_reducible refine wpAny_loadPart_at hB ?_ | (with_reducible refine wpAny_isSubtype_exc hB ?_; rw [hcB]) | with_reducible refine wpAny_isSubtype_exc hC ?_ | wp_step)
  cases hb : (Value.ref C :: bm).contains (.ref B) <;> (rw [hb] at hq; first | exact hq | (wp_walk; exact hq))
end
end L2
set_option Elab.async false
set_option linter.all false
set_option maxRecDepth 100000
set_option maxHeartbeats 1000000
namespace L2
open PySem PySem.Spec PyProof.Rows
def XP (X : Cx) (pins : List (Addr × Obj)) (σ : St) (E : XK) (e : Value) (s' : Shared) : Prop := ∃ (x T : Addr) (C : Value) (d : Option Addr) (H' : Hp), e = .ref x ∧ Inv X pins σ H' s' ∧ TrX s'.heap x C d T ∧
  (X.s₀.heap.get? x = none ∧ X.s₀.heap.get? T = none) ∧ (∀ p ∈ X.pn ++ pins, p.1 ≠ x ∧ p.1 ≠ T) ∧ H' x = none ∧ H' T = none ∧ E C d H'
abbrev TX := St → Hp → VK → XK → Prop
def PEx (X : Cx) (e : Expr) (t : TX) : Prop :=
  ∀ (pins : List (Addr × Obj)) (s : Shared) (σ : St) (H : Hp) (Q : VK) (E : XK), Inv X pins σ H s → t σ H Q E → wpAny (model X.prog X.w) X.A (eval e X.env) (EP X pins σ Q) (XP X pins σ E) s
def xCall (sp : Sp) (t : TA) : TX := fun σ H Q E => t σ H fun vs H1 => sp vs H1 Q E
theorem pex_call {X : Cx} {k : Nat} {x : Str} {ps : List Str} {sp : Sp} {e : Expr} {es : List Expr} {t : TA} {p pos : Pos} (C : CalX X.prog X.w X.K X.mg X.base k x ps sp) (hr : Room k X.A) (hex : ∀ b, b ∉ X.ex) (hg : Gl X x) (ha : PA X.nox (e :: es) t) (hd : (x == ("__debug__" : Str)) = false := by decide)
    (he : starEach (e :: es) X.env = (false, eval e X.env) :: starEach es X.env := by rfl) (hpl : (backTo pos (starEach es X.env)).any (·.1) = false := by rfl) : PEx X (.Call (.Name x p) (e :: es) [] pos) (xCall sp t) := by
  obtain ⟨f, fd, F, hm, hk, hb⟩ := C.ex
  intro pins s σ H Q E I h
  refine wpAny_Call_Name_kw (ld_glob I hg hm ?_ hd)
  refine PySem.W.callWith_K (h₀ := X.base) I.ok.mod.kin hk (wpAny_mono (ha pos pins s σ H _ (I.wish _) h) (fun us s1 ⟨vs, H1, I1, r, q⟩ => ⟨I1.kIn, ?_⟩) fun _ _ z => False.elim z) he hpl
  have I1 := I1.unwish
  have hl : us.length = ps.length := by rw [← r.length]; exact F.len _ _ _ _ q
  have hbt := hb s1 us I1.kIn (by rw [List.append_nil]; exact hl)
  rw [List.append_nil] at hbt
  refine wpAny_call (codeAny_mono (F.run X.A X.stack s1 H1 ⟨us, []⟩ us vs Q E hr I1.env0 hbt r q) fun r s' hq => ?_)
  cases r with
  | error er =>
    obtain ⟨x', T, C', d, H', rfl, os, bare, un, hok, tr, hx, hT, nx, nT, hE⟩ := hq
    have old : ∀ {y : Addr}, s1.heap.get? y = none → X.s₀.heap.get? y = none := fun {y} hy => by
      cases z : X.s₀.heap.get? y with
      | none => rfl
      | some o =>
        obtain ⟨o', e'⟩ := I1.base.there y o z (hex y)
        rw [hy] at e'
        cases e'
    refine ⟨x', T, C', d, H', rfl, I1.call' os un hok bare (fun b z => absurd z (by simp)), tr, ⟨old hx, old hT⟩, fun p' hp => ⟨fun z => ?_, fun z => ?_⟩, nx, nT, hE⟩
    · have := (I1.pin p' hp).1
      rw [z, hx] at this
      cases this
    · have := (I1.pin p' hp).1
      rw [z, hT] at this
      cases this
  | ok fl =>
    cases fl with
    | ret u => exact I1.after hq
    | next => exact False.elim hq
    | brk => exact False.elim hq
    | cont => exact False.elim hq
structure LvK (fr : List Addr) (e : Addr) (T : Addr) (h h' : Heap) : Prop where
  keep : ∀ b o, b ∉ fr → b ≠ e → some b ≠ some T → h.get? b = some o → h'.get? b = some o
  slot : ∀ b o, b ∈ fr → h.get? b = some o → ∃ sl, h'.get? b = some { o with slots := sl }
theorem Lv.k {fr : List Addr} {e T : Addr} {C : Value} {d : Option Addr} {h h' : Heap} (l : Lv fr e C d (some T) h h') : LvK fr e T h h' := ⟨l.keep, l.slot⟩
theorem inv_noted {X : Cx} {pins : List (Addr × Obj)} {σ : St} {H : Hp} {s : Shared} {h' : Heap} {x T : Addr} {C : Value} {d : Option Addr} (I : Inv X pins σ H s) (tr : TrX s.heap x C d T) (l : LvK (frs X.stack) x T s.heap h') (ox : X.s₀.heap.get? x = none) (oT : X.s₀.heap.get? T = none)
    (np : ∀ p ∈ X.pn ++ pins, p.1 ≠ x ∧ p.1 ≠ T) (nx : H x = none) (nT : H T = none) : Inv X pins σ H { s with heap := h' } := by
  obtain ⟨oe, vs, oT', ts, he, _, _, hd, _, _, hT, hdT, _⟩ := tr
  have inS : ∀ b, b ∈ frs X.stack → b = X.env.locals ∨ b ∈ X.fs := fun b hb => List.mem_cons.mp (I.stkSub b hb)
  have nxl : ∀ b o, X.s₀.heap.get? b = some o → b ≠ x ∧ some b ≠ some T := fun b o e => ⟨fun z => (by rw [z, ox] at e; cases e), fun z => (by cases z; rw [oT] at e; cases e)⟩
  have neL : ∀ b o, X.s₀.heap.get? b = some o → b ≠ X.env.locals := fun b o e => Nat.ne_of_lt (Nat.lt_of_lt_of_le (Heap.lt_size e) I.ok.above)
  have any : ∀ b o, (∀ vs, o.data ≠ .fields vs) → s.heap.get? b = some o → ∃ sl, h'.get? b = some { o with slots := sl } := fun b o hnf e => by
    by_cases hb : b ∈ frs X.stack
    · exact l.slot b o hb e
    · refine ⟨o.slots, l.keep b o hb (fun z => ?_) (fun z => ?_) e⟩
      · rw [z, he] at e; cases e; exact hnf _ hd
      · cases z; rw [hT] at e; cases e; exact hnf _ hdT
  have cellK : ∀ c v, s.heap.IsCell c v → h'.IsCell c v := fun c v ⟨o, ho, hdd⟩ => by
    obtain ⟨sl, e⟩ := any c o (fun vs z => by rw [hdd] at z; cases z) ho
    exact ⟨_, e, hdd⟩
  refine ⟨I.ok, I.os, I.bare, ⟨fun b o e n hb hx' => ?_, fun b o e n hb hx' => ?_, fun b o e n hx' => I.base.free b o e n hx', fun b o e hx' => ?_, I.base.tups, I.base.frzs, I.base.tbls⟩, ?_, fun y c e => ?_, I.free, I.freeC, fun p hp => ?_, fun b u q => ?_, I.len⟩
  · exact l.keep b o (fun z => (inS b z).elim (neL b o e) hb) (nxl b o e).1 (nxl b o e).2 (I.base.keep b o e n hb hx')
  · obtain ⟨sl, e1⟩ := I.base.slot b o e n hb hx'
    by_cases z : b ∈ frs X.stack
    · obtain ⟨sl2, e2⟩ := l.slot b _ z e1
      exact ⟨sl2, e2⟩
    · exact ⟨sl, l.keep b _ z (nxl b o e).1 (nxl b o e).2 e1⟩
  · obtain ⟨o', e1⟩ := I.base.there b o e hx'
    by_cases z : b ∈ frs X.stack
    · obtain ⟨sl2, e2⟩ := l.slot b _ z e1
      exact ⟨_, e2⟩
    · exact ⟨_, l.keep b _ z (nxl b o e).1 (nxl b o e).2 e1⟩
  · obtain ⟨m, ⟨o, es, ep, ho, hdd, r⟩, hv⟩ := I.loc
    obtain ⟨sl, e⟩ := any _ o (fun vs z => by rw [hdd] at z; cases z) ho
    refine ⟨m, ⟨_, es, ep, e, hdd, r⟩, fun i y v h1 h2 h3 => ?_⟩
    obtain ⟨u, ru, lk⟩ := hv i y v h1 h2 h3
    refine ⟨u, ru, ?_⟩
    rcases lk with z | ⟨z, c, e1, e2⟩
    · exact .inl z
    · exact .inr ⟨z, c, e1, cellK c _ e2⟩
  · obtain ⟨v, hv⟩ := I.cell y c e
    exact ⟨v, cellK c v hv⟩
  · obtain ⟨e, n, ne, nf, dd⟩ := I.pin p hp
    exact ⟨l.keep _ _ (fun z => (inS _ z).elim ne nf) (np p hp).1 (fun z => (np p hp).2 (Option.some.inj z)) e, n, ne, nf, dd⟩
  · refine (I.hok b u q).stay (fun c v hc e => ?_) (fun _ z => z) fun _ _ z => z
    have tc : ∃ v, H c = some v := by
      rcases hc with z | z
      · rw [z]; exact ⟨_, q⟩
      · exact ⟨_, z⟩
    obtain ⟨v', hv⟩ := tc
    refine l.keep c v (fun z => ?_) (fun z => ?_) (fun z => ?_) e
    · have := I.stkFree c z
      rw [hv] at this
      cases this
    · rw [z, nx] at hv
      cases hv
    · cases z
      rw [nT] at hv
      cases hv
def ExcAt (x : Addr) (C : Value) (d : Option Addr) (h : Heap) : Prop := ∃ o, h.get? x = some o ∧ o.cls = C ∧ o.dict = d ∧ ∃ vs, o.data = .fields vs
def Exc (x : Addr) (C : Value) (d : Option Addr) : HO := .ext (ExcAt x C d)
theorem inv_track {X : Cx} {pins : List (Addr × Obj)} {σ : St} {H : Hp} {s : Shared} {x T : Addr} {C : Value} {d : Option Addr} (I : Inv X pins σ H s) (tr : TrX s.heap x C d T) (ox : X.s₀.heap.get? x = none) (np : ∀ p ∈ X.pn ++ pins, p.1 ≠ x) (nx : H x = none) :
    Inv X pins σ (upd H x (Exc x C d)) s := by
  obtain ⟨oe, vs, oT', ts, he, hc, hdi, hd, _, _, hT, hdT, _⟩ := tr
  have nof : ∀ b o, s.heap.get? b = some o → (∀ vs, o.data ≠ .fields vs) → b ≠ x := fun b o e hnf z => by rw [z, he] at e; cases e; exact hnf _ hd
  refine ⟨I.ok, I.os, I.bare, ⟨I.base.keep, I.base.slot, fun b o e n hx' => ?_, I.base.there, fun b xs q => ?_, fun b o u q => ?_, fun b ps q => ?_⟩, I.loc, I.cell, ?_, fun y c e => ?_, fun p hp => ?_, fun b u q => ?_, I.len⟩
  · rw [upd_ne (fun z => by rw [z, ox] at e; cases e)]; exact I.base.free b o e n hx'
  · have := I.base.tups b xs q
    rw [upd_ne (fun z => by rw [z, nx] at this; cases this)]; exact this
  · have := I.base.frzs b o u q
    rw [upd_ne (fun z => by rw [z, nx] at this; cases this)]; exact this
  · obtain ⟨more, this⟩ := I.base.tbls b ps q
    exact ⟨more, by rw [upd_ne (fun z => by rw [z, nx] at this; cases this)]; exact this⟩
  · obtain ⟨m, ⟨o, es, ep, ho, hdd, r⟩, hv⟩ := I.loc
    rw [upd_ne (nof _ o ho fun vs z => by rw [hdd] at z; cases z)]
    exact I.free
  · obtain ⟨v, o, ho, hdd⟩ := I.cell y c e
    rw [upd_ne (nof _ o ho fun vs z => by rw [hdd] at z; cases z)]
    exact I.freeC y c e
  · obtain ⟨e, n, ne, nf, dd⟩ := I.pin p hp
    exact ⟨e, by rw [upd_ne (np p hp)]; exact n, ne, nf, dd⟩
  · by_cases z : b = x
    · subst z
      rw [upd_same] at q
      cases q
      exact ⟨⟨oe, he, hc, hdi, vs, hd⟩, ⟨oe, he⟩, fun h1 h2 ⟨o, e1, e2⟩ k => ⟨o, k o e1, e2⟩⟩
    · rw [upd_ne z] at q
      refine (I.hok b u q).stay (fun c v _ e => e) (fun c q' => ?_) fun c xs q' => ?_
      · rw [upd_ne (fun z => by rw [z, nx] at q'; cases q')]; exact q'
      · rw [upd_ne (fun z => by rw [z, nx] at q'; cases q')]; exact q'
theorem flight_ok {M : Model} {A : Around} {E : Value → Shared → Prop} {s : Shared} {Q : Unit → Shared → Prop} {x T : Addr} {C : Value} {d : Option Addr} (tr : TrX s.heap x C d T)
    (h : ∀ h', (∀ b, b ≠ T → h'.get? b = s.heap.get? b) → TrX h' x C d T → Q () { s with heap := h' }) : wpAny M A (setFlight (.ref x) none) Q E s := by
  obtain ⟨oe, vs, oT, ts, he, hc, hdi, hd, h1, hTe, hT, hdT, h3⟩ := tr
  unfold setFlight
  refine wpAny_bind (wpAny_field he hd h1 ?_)
  rw [if_pos (show (Value.ref T != Value.none) = true from by simp)]
  refine wpAny_setField hT hdT (Array.getElem?_eq_some_iff.mp h3).1 (h _ (fun b hb => Heap.get?_update_other _ _ (Ne.symm hb)) ?_)
  refine ⟨oe, vs, _, _, (Heap.get?_update_other _ _ hTe).trans he, hc, hdi, hd, h1, hTe, Heap.get?_update_self _ hT (Obj.isFreed_of_fields (Obj.data_mapFields hdT _)), Obj.data_mapFields hdT _, ?_⟩
  have := (Array.getElem?_eq_some_iff.mp h3).1
  simp [this]
def susp (X : Cx) (e : Addr) : Cx := { X with A := X.A.mark (some (.ref e)), calm := false, xe := fun _ _ => False }
theorem Inv.susp {X : Cx} {pins : List (Addr × Obj)} {σ : St} {H : Hp} {s : Shared} (I : Inv X pins σ H s) (e : Addr) : Inv (susp X e) pins σ H s :=
  have ok := I.ok
  ⟨⟨ok.mod, ok.kind, ok.glob, ok.blt, ok.above, ok.inj, ok.has, ok.cab, (fun z => by cases z), ok.frames, ok.stk, ok.exf, ok.bs, ok.bsz, ok.noex, ok.exfs, ok.funs, ok.frf⟩, I.os, I.bare, I.base, I.loc, I.cell, I.free, I.freeC, I.pin, I.hok, I.len⟩
theorem Inv.unsusp {X : Cx} {pins : List (Addr × Obj)} {σ : St} {H : Hp} {s : Shared} {e : Addr} (ok : X.Ok) (I : Inv (L2.susp X e) pins σ H s) : Inv X pins σ H s :=
  ⟨ok, I.os, I.bare, I.base, I.loc, I.cell, I.free, I.freeC, I.pin, I.hok, I.len⟩
theorem unbind_ok {X : Cx} {pins : List (Addr × Obj)} {σ : St} {H : Hp} {s : Shared} {M : Model} {A : Around} {E : Value → Shared → Prop} {i : Nat} {n : Str} {pos : Pos} {Q : Unit → Shared → Prop} (I : Inv X pins σ H s) (hN : X.N.Nodup) (hi : X.N[i]? = some n) (hl : X.env.kindOf n = some .local)
    (hloc : X.env.scope.names.lookup n = some .local) (h : ∀ s', Inv X pins (σ.set i none) H s' → Q () s') : wpAny M A (do bindName X.env n .none; unbindBehindTheSuite X.env n pos) Q E s := by
  refine wpAny_bind (wpAny_bindName (store_ok I hN hi (.inl hloc) (v := .non) (u := .none) rfl (fun s1 I1 => ?_) (.inr hloc)))
  obtain ⟨m, hn, hv⟩ := I1.loc
  have hil : i < σ.length := by
    rw [I.len]
    exact (List.getElem?_eq_some_iff.mp hi).1
  obtain ⟨u, ru, lk⟩ := hv i n .non hi (by rw [List.getElem?_set_self hil]) (.inl hloc)
  have hm : ∃ u, m n = some u := by
    rcases lk with ⟨_, z⟩ | ⟨z, _⟩
    · exact ⟨_, z⟩
    · rw [hl] at z
      rcases z with z | z <;> cases z
  obtain ⟨u, hm⟩ := hm
  unfold unbindBehindTheSuite
  refine wpAny_onRaise ?_
  refine wpAny_unbindName_local hl hn hm (by rw [I.ok.kind]; rfl) fun h' u' hn' hs => h _ ?_
  have hL := hn
  obtain ⟨oL, esL, epL, hoL, hdL, _⟩ := hL
  obtain ⟨oL', esL', epL', hoL', hdL', _⟩ := id hn'
  have neL : ∀ b o, X.s₀.heap.get? b = some o → b ≠ X.env.locals := fun b o e => Nat.ne_of_lt (Nat.lt_of_lt_of_le (Heap.lt_size e) I.ok.above)
  have cellK : ∀ c v, s1.heap.IsCell c v → h'.IsCell c v := fun c v ⟨o, ho, hdd⟩ => by
    refine ⟨o, (hs.2 c fun z => ?_).trans ho, hdd⟩
    rw [z, hoL] at ho
    cases ho
    rw [hdL] at hdd
    cases hdd
  refine ⟨I1.ok, I1.os, I1.bare, ⟨fun b o e n hb hx' => (hs.2 b (neL b o e)).trans (I1.base.keep b o e n hb hx'), fun b o e n hb hx' => ?_, fun b o e n hx' => I1.base.free b o e n hx', fun b o e hx' => ?_, I1.base.tups, I1.base.frzs, I1.base.tbls⟩, ⟨_, hn', fun j y v h1 h2 h3 => ?_⟩, fun y c e => ?_, I1.free, I1.freeC, fun p hp => ?_, fun b u q => ?_, ?_⟩
  · obtain ⟨sl, e1⟩ := I1.base.slot b o e n hb hx'
    exact ⟨sl, (hs.2 b (neL b o e)).trans e1⟩
  · obtain ⟨o', e1⟩ := I1.base.there b o e hx'
    exact ⟨o', (hs.2 b (neL b o e)).trans e1⟩
  · have hji : j ≠ i := fun z => by
      subst z
      rw [List.getElem?_set_self hil] at h2
      cases h2
    have hyn : y ≠ n := fun z => by
      subst z
      obtain ⟨a1, a2⟩ := List.getElem?_eq_some_iff.mp h1
      obtain ⟨b1, b2⟩ := List.getElem?_eq_some_iff.mp hi
      exact hji ((List.getElem_inj hN).mp (a2.trans b2.symm))
    rw [List.getElem?_set_ne (Ne.symm hji)] at h2
    obtain ⟨u2, ru2, lk2⟩ := hv j y v h1 (by rw [List.getElem?_set_ne (Ne.symm hji)]; exact h2) h3
    refine ⟨u2, ru2, ?_⟩
    rcases lk2 with ⟨z1, z2⟩ | ⟨z, c, e1, e2⟩
    · exact .inl ⟨z1, by show (if y = n then u' else m y) = _; rw [if_neg hyn]; exact z2⟩
    · exact .inr ⟨z, c, e1, cellK c _ e2⟩
  · obtain ⟨v, hv⟩ := I1.cell y c e
    exact ⟨v, cellK c v hv⟩
  · obtain ⟨e, n, ne, nf, dd⟩ := I1.pin p hp
    exact ⟨(hs.2 _ ne).trans e, n, ne, nf, dd⟩
  · refine (I1.hok b u q).stay (fun c v hc e => ?_) (fun _ z => z) fun _ _ z => z
    have tc : ∃ v, H c = some v := by
      rcases hc with z | z
      · rw [z]; exact ⟨_, q⟩
      · exact ⟨_, z⟩
    obtain ⟨v', hv'⟩ := tc
    refine (hs.2 c fun z => ?_).trans e
    rw [z, I1.free] at hv'
    cases hv'
  · rw [List.length_set]; exact I.len
end L2
set_option Elab.async false
set_option linter.all false
set_option maxRecDepth 100000
set_option maxHeartbeats 1000000
namespace L2
open PySem PySem.Spec PyProof.Rows
abbrev TSX := Ends → XK → St → Hp → Prop
def PSx (X : Cx) (st : List Stmt) (t : TSX) : Prop :=
  ∀ (pins : List (Addr × Obj)) (s : Shared) (σ : St) (H : Hp) (D : Ends) (E : XK), Inv X pins σ H s → t D E σ H → wpAny (model X.prog X.w) X.A (execs st X.env) (SP X pins D) (XP X pins σ E) s
def xDrop (te : TX) : TSX := fun D E σ H => te σ H (fun _ H' => D.nx σ H') E
theorem psx_expr {X : Cx} {e : Expr} {te : TX} {pos : Pos} (he : PEx X e te) (hs : swapsWith e none pos.line X.env = pure false := by rfl) : PSx X [.Expr e pos] (xDrop te) := by
  intro pins s σ H D E I h
  refine wpAny_execs_cons (wpAny_Expr_any (thn (he pins s σ H _ E I h) fun v s1 ⟨x, H1, I1, r1, q1⟩ => ?_) I.quiet hs)
  exact wpAny_execs_nil ⟨σ, H1, I1, q1⟩
def subIn (K : PySem.W.Frag) (c B : Addr) : Bool := match K.lookup c with
  | some ⟨_, _, .cls cd, _⟩ => cd.mro.contains (.ref B)
  | _ => false
theorem sub_of {K : PySem.W.Frag} {h : Heap} {c B : Addr} {nm q : Str} {N : Addr} {bs bm : List Value} {hdct : Bool} {sn : List Str} {sub : List Value} {ab : Bool} {col : Option Bool} {dd : Option Addr} {k0 k1 k2 k3 k5 : Option Value} {newId : String}
    (X : K.In h) (hC : h.get? c = some (excClassObj nm q c N bs bm hdct sn sub ab col dd k0 k1 k2 k3 k5 newId)) (e : subIn K c B = true) : (Value.ref c :: bm).contains (.ref B) = true := by
  unfold subIn at e
  split at e
  · rename_i ho
    have := X _ _ ho
    rw [hC] at this
    cases this
    exact e
  · cases e
def hEnds (D : Ends) (i : Nat) : Ends := { nx := fun σ H => D.nx (σ.set i none) H, rt := D.rt, bk := fun σ H => D.bk (σ.set i none) H, ct := fun σ H => D.ct (σ.set i none) H }
def tTryAs (K : PySem.W.Frag) (tb : TSX) (B : Addr) (i : Nat) (th : TS) : TS := fun D σ H =>
  tb D (fun C d H' => ∃ c bmB newId, C = .ref c ∧ PySem.W.excIn K c bmB newId = true ∧ subIn K c B = true ∧ ∀ x, H' x = none → th (hEnds D i) (σ.set i (some (.ref x))) (upd H' x (Exc x C d))) σ H
theorem ps_tryAs {X : Cx} {body : List Stmt} {tb : TSX} {xB n : Str} {B : Addr} {bmB : List Value} {newId : String} {i : Nat} {b₀ : Stmt} {suite : List Stmt} {th : TS} {np hpos pos : Pos} (hb : PSx X body tb) (hB : PySem.W.excIn X.K B bmB newId = true) (hbB : bmB.contains (.type "BaseException") = true)
    (hg : Gl X xB) (hm : X.mg xB = some (.ref B)) (hN : X.N.Nodup) (hi : X.N[i]? = some n) (hl : X.env.kindOf n = some .local) (hloc : X.env.scope.names.lookup n = some .local) (hst : X.stack = X.env :: X.outer) {L : Addr} (hf : X.env.frame = some L)
    (hs : ∀ e, PSs (susp X e) (b₀ :: suite) th) (hd : (xB == ("__debug__" : Str)) = false := by decide) :
    PS X (.Try body [.ExceptHandler (some (.Name xB np)) (some n) (b₀ :: suite) hpos] [] [] pos) (tTryAs X.K tb B i th) := by
  intro pins s σ H D I h
  refine wpAny_Try_except (wpAny_mono (hb pins s σ H D _ I h) (fun f s1 q => ?_) fun e s1 q => ?_)
  · cases f with
    | next => exact wpAny_execs_nil q
    | ret v => exact q
    | brk => exact q
    | cont => exact q
  obtain ⟨x, T, C, d, H', rfl, I1, tr, ⟨ox, oT⟩, np', nx, nT, c, bmC, newC, rfl, hC0, hsub, hE⟩ := q
  have hfr : X.A.frames = some (X.env :: X.outer) := by rw [I1.ok.frames, hst]
  have hfun : s1.heap.FunFrames X.base (X.env :: X.outer) := by rw [← hst]; exact I1.stack
  refine lv_nextN hfr hfun hf tr fun h' l => ?_
  have hfrs : (X.env :: X.outer).filterMap (·.frame) = frs X.stack := by rw [hst]; rfl
  rw [hfrs] at l
  have I2 := inv_noted I1 tr l.k ox oT np' nx nT
  have tr2 := l.exc
  have oT2 : X.s₀.heap.get? s1.heap.objs.size = none := Heap.get?_none_of_le I1.sz
  have nT2 : H' s1.heap.objs.size = none := I1.hok.fresh (Nat.le_refl _)
  have np2 : ∀ p ∈ X.pn ++ pins, p.1 ≠ x ∧ p.1 ≠ s1.heap.objs.size := fun p hp => ⟨(np' p hp).1, Nat.ne_of_lt (Heap.lt_size (I1.pin p hp).1)⟩
  refine wpAny_handleBy_cons (codeAny_handlers_test (ld_glob (X := susp X x) (I2.susp x) hg hm ?_ hd)) (by intro q; cases q)
  obtain ⟨bm, N, nm, q, bs, hdct, sn, sub, ab, col, dd, k0, k1, k2, k3, k5, mN, hC, _, _, _⟩ := exc_obj I2.kIn hC0
  obtain ⟨bm', N', nm', q', bs', hdct', sn', sub', ab', col', dd', k0', k1', k2', k3', k5', mN', hBo, _, _, TB⟩ := exc_obj I2.kIn hB
  obtain ⟨oe, vs, oT', ts, he, hcls, _, hdd, _, hTe, hTo, hdT, _⟩ := id tr2
  refine exc_match hC hBo he hcls (TB.hasType hbB) ?_
  rw [sub_of I2.kIn hC hsub]
  show codeAny _ _ _ _ _
  refine codeAny_handlers_suite_as (flight_ok tr2 fun h3 k3 tr3 => ?_)
  have I3 : Inv X pins σ H' { s1 with heap := h3 } := by
    refine inv_noted (s := { s1 with heap := h' }) (h' := h3) I2 tr2 ⟨fun b o _ _ hbT e => (k3 b fun z => hbT (by rw [z])).trans e, fun b o hbf e => ⟨o.slots, (k3 b fun z => ?_).trans e⟩⟩ ox oT2 np2 nx nT2
    subst z
    obtain ⟨_, o', ho', hnf⟩ := I2.stack.mem hbf
    rw [hTo] at ho'
    cases ho'
    exact hnf _ hdT
  have I4 := inv_track I3 tr3 ox (fun p hp => (np' p hp).1) nx
  refine store_ok (X := X) I4 hN hi (.inl hloc) (v := .ref x) (u := .ref x) rfl (fun s4 I5 => ?_) (.inr hloc)
  refine wpAny_mono (hs x pins s4 _ _ (hEnds D i) (I5.susp x) (hE x nx)) (fun f s5 q => ?_) fun _ _ z => False.elim z
  show wpAny _ _ _ _ _ _
  have ok := I.ok
  cases f with
  | next =>
    obtain ⟨σ', H2, I6, q⟩ := q
    exact unbind_ok (I6.unsusp ok) hN hi hl hloc fun s7 I7 => ⟨_, _, I7, q⟩
  | brk =>
    obtain ⟨σ', H2, I6, q⟩ := q
    exact unbind_ok (I6.unsusp ok) hN hi hl hloc fun s7 I7 => ⟨_, _, I7, q⟩
  | cont =>
    obtain ⟨σ', H2, I6, q⟩ := q
    exact unbind_ok (I6.unsusp ok) hN hi hl hloc fun s7 I7 => ⟨_, _, I7, q⟩
  | ret u =>
    obtain ⟨v, σ', H2, I6, r, q⟩ := q
    exact unbind_ok (I6.unsusp ok) hN hi hl hloc fun s7 I7 => ⟨_, _, _, I7, r, q⟩
end L2
set_option Elab.async false
set_option linter.all false
set_option maxRecDepth 100000
set_option maxHeartbeats 1000000
namespace L2
open PySem PySem.Spec PyProof.Rows
section
variable {prog : Program} {w : World} {A : Around} {E : Value → Shared → Prop} {s : Shared} {K : PySem.W.Frag} {x D : Addr} {o : Obj}
theorem exc_class {Q : Option Value → Shared → Prop} (X : K.In s.heap) (I : PySem.W.InstAt s.heap x o D none) (hga : PySem.W.findIn K (.ref D) "__getattribute__" = some (some (.builtin "BaseException.__getattribute__"))) (hgt : PySem.W.findIn K (.ref D) "__getattr__" = some none)
    (hf : PySem.W.findIn K (.ref D) "__class__" = some (some (.builtin "object.__class__"))) (hm : PySem.W.mroIn K D (.type "object") = some true) (hB : PySem.W.subIn K (.ref D) (.type "BaseException") = some true) (h : Q (some (.ref D)) { s with toks := s.toks + 1 }) : wpAny (model prog w) A (getAttr? (.ref x) "__class__") Q E s := by
  obtain ⟨hh, g, d, t, os⟩ := s
  have L0 := I.type (M := model prog w)
  have L1 := PySem.W.looks_findIn (M := model prog w) X hga
  have L2 := PySem.W.looks_findIn (M := model prog w) X hgt
  have L3 := PySem.W.looks_findIn (M := model prog w) X hf
  unfold getAttr? getAttrBy? getAttrBy
  refine wpAny_bind (wpAny_mkText (wpAny_bind (wpAny_attempt (wpAny_holding (wpAny_bind (L0.at (wpAny_bind (L1.at ?_))))))))
  show wpAny _ _ (getAttrByItsOwn _ _ _ _ _ _) _ _ _
  unfold getAttrByItsOwn hookBefore
  have hx0 : (false && onTheHeap (Value.builtin "BaseException.__getattribute__")) = false := rfl
  have f3 := PySem.F.attr_ValueError.ga.bind (.ref x)
  repeat (any_goals (first | assumption | with_reducible refine L2.at ?_ | with_reducible refine L0.at ?_ | wp_step))
  have LB := PySem.W.looks_subIn (M := model prog w) X hB
  have hk : builtinKind "BaseException.__getattribute__" = some .slot := by decide +kernel
  have hsplit : splitId "BaseException.__getattribute__" = some ("BaseException", "__getattribute__") := by decide +kernel
  have ha := PySem.F.args_bexc_ga (.ref x) (Value.str (Str.ofString "__class__") t)
  refine codeAny_call_builtin PySem.F.attr_ValueError.ga.plain PySem.F.entry_bexc_ga ?_
  show wpAny _ _ (checkBuiltinCall "BaseException.__getattribute__" ⟨[.ref x, Value.str (Str.ofString "__class__") t], []⟩) _ _ _
  simp only [checkBuiltinCall, hk, hsplit]
  refine wpAny_bind ?_
  unfold isInstance
  have f5 := PySem.F.typeOf_object_class
  have f6 := PySem.F.slot_gs_get.lookup
  have f7 := PySem.F.slot_gs_set.lookup
  repeat (any_goals (first | assumption | with_reducible refine L0.at ?_ | with_reducible refine LB.at ?_ | with_reducible refine L3.at ?_ | wp_step))
  refine PySem.W.class_get (s := ⟨hh, g, d, t + 1, os⟩) (ox := o) (od := none) X I hm ?_
  refine wpAny_pure ?_
  refine PySem.W.handed_on rfl ?_
  exact wpAny_pure h
end
def excK (K : PySem.W.Frag) (D : Addr) : Bool := PySem.W.findIn K (.ref D) "__getattribute__" == some (some (.builtin "BaseException.__getattribute__")) && PySem.W.findIn K (.ref D) "__getattr__" == some none && (PySem.W.clsIn K D).isSome &&
  PySem.W.findIn K (.ref D) "__class__" == some (some (.builtin "object.__class__")) && PySem.W.mroIn K D (.type "object") == some true && PySem.W.subIn K (.ref D) (.type "BaseException") == some true
theorem kitx_exc {K : PySem.W.Frag} {x D : Addr} (hk : excK K D = true) : PySem.W.KitX K (.ref x) (.ref D) (ExcAt x (.ref D) none) := by
  unfold excK at hk
  simp only [Bool.and_eq_true, beq_iff_eq] at hk
  obtain ⟨⟨⟨⟨⟨hga, hgt⟩, hc⟩, ha⟩, hm⟩, hB⟩ := hk
  have inst : ∀ {h : Heap}, ExcAt x (.ref D) none h → ∃ o, PySem.W.InstAt h x o D none := fun {h} ⟨o, e, c, dd, vs, hd⟩ => by
    refine ⟨o, e, c, ?_, ?_⟩
    · unfold PySem.W.notCls; rw [hd]
    · rw [dd]; trivial
  have cls : ∃ c d cd sl, K.lookup D = some ⟨c, d, .cls cd, sl⟩ := by
    unfold PySem.W.clsIn at hc
    split at hc
    · rename_i ho
      exact ⟨_, _, _, _, ho⟩
    · cases hc
  obtain ⟨c', d', cd', sl', ho⟩ := cls
  refine ⟨fun M h X p => ?_, fun M h X p => ?_, fun h tp dd its n sl X htp => ?_, fun {prog w A E Q s} X p k => ?_⟩
  · obtain ⟨o, I⟩ := inst p
    exact I.type
  · intro A' Q' E' s' k q
    unfold isType loadHead
    exact wpAny_bind (wpAny_loadPart (k _ _ (X _ _ ho)) (wpAny_pure q))
  · refine Bool.eq_false_iff.mpr fun q => ?_
    have e : D = tp := Value.ref.inj (beq_iff_eq.mp q)
    subst e
    have z := (X _ _ ho).symm.trans htp
    cases z
  · obtain ⟨o, I⟩ := inst p
    exact exc_class X I hga hgt ha hm hB k
def rIsX (K : PySem.W.Frag) : List V → Hp → VK → Prop := fun xs H Q => ∃ (x C : Addr) (c : V) (b : Bool), xs = [.ref x, c] ∧ H x = some (Exc x (.ref C) none) ∧ excK K C = true ∧
  ((∃ B, c = .ref B ∧ PySem.W.kitOne K (.ref C) (.ref B) = some b) ∨ (∃ T, c = .ty T ∧ PySem.W.kitOne K (.ref C) (.type T) = some b) ∨ (∃ (tp : Addr) (cs : List Addr), c = .ref tp ∧ H tp = some (.tup (cs.map V.ref)) ∧ PySem.W.kitAny K (.ref C) (cs.map Value.ref) = some b)) ∧ Q (.bl b) H
theorem vals_addrs : ∀ {cs : List Addr} {its : List Value}, Vals (cs.map V.ref) its → its = cs.map Value.ref
  | [], its, r => by cases r; rfl
  | c :: cs, its, r => by
    cases r with
    | cons a b =>
      cases a
      rw [vals_addrs b]
      rfl
theorem call_isX {X : Cx} : CallR X (.builtin "isinstance") (rIsX X.K) := by
  intro pins s σ H xs us Q I r h
  obtain ⟨x, C, c, b, rfl, hx, hk, alt, q⟩ := h
  obtain ⟨u1, u2, rfl, r1, r2⟩ := Vals.two r
  cases (show u1 = Value.ref x from r1)
  have p : ExcAt x (.ref C) none s.heap := (I.hok x _ hx).1
  rcases alt with ⟨B, rfl, e⟩ | ⟨T, rfl, e⟩ | ⟨tp, cs, rfl, htp, e⟩
  · cases (show u2 = Value.ref B from r2)
    exact PySem.W.kia_one (kitx_exc hk) I.kIn p e (fun z => nomatch z) fun tk => ⟨.bl b, H, I.tok _, rfl, q⟩
  · cases (show u2 = Value.type T from r2)
    exact PySem.W.kia_one (kitx_exc hk) I.kIn p e (fun z => nomatch z) fun tk => ⟨.bl b, H, I.tok _, rfl, q⟩
  · cases (show u2 = Value.ref tp from r2)
    obtain ⟨_, its, rv, ob, hob, hcls, nn, hdat⟩ := (show ObjOk X.prog X.w H s.heap tp (.tup (cs.map V.ref)) from I.hok tp _ htp)
    rw [vals_addrs rv] at hdat
    obtain ⟨oc, od, dt, sl⟩ := ob
    cases hcls
    cases hdat
    exact PySem.W.kia_tup (kitx_exc hk) I.kIn p hob e (fun z => nomatch z) fun tk => ⟨.bl b, H, I.tok _, rfl, q⟩
end L2
set_option Elab.async false
set_option linter.all false
set_option maxRecDepth 100000
set_option maxHeartbeats 1000000
namespace L2
open PySem PySem.Spec PyProof.Rows
theorem bo_ValueError : bootBuiltins "ValueError" = some (.type "ValueError") := by decide +kernel
theorem PS.nox {X : Cx} {st : Stmt} {t : TS} (h : PS X.nox st t) : PS X st t := fun pins s σ H D I hw =>
  wpAny_mono (h pins s σ H D (I.wish _) hw) (fun _ _ q => q.unwish) fun _ _ z => False.elim z
end L2
set_option Elab.async false
set_option linter.all false
set_option maxRecDepth 100000
set_option maxHeartbeats 1000000
namespace L2
open PySem PySem.Spec
end L2
set_option Elab.async false
set_option linter.all false
set_option maxRecDepth 100000
set_option maxHeartbeats 1000000
namespace L2
open PySem PySem.Spec
structure DKR (H : Hp) (kvs : List (Key × V)) (fd : List (Int × Int)) : Prop where
  len : kvs.length = fd.length
  no : ∀ c, fd.lookup c = none → valV kvs (.inl c) = none
  at_ : ∀ c k, fd.lookup c = some k → ∃ r, valV kvs (.inl c) = some (.ref r) ∧ H r = some (.tup [.int k, .int 0, .int 1])
end L2
set_option Elab.async false
set_option linter.all false
set_option maxRecDepth 100000
set_option maxHeartbeats 1000000
namespace L2
open PySem PySem.Spec
def Sh1 (s x : Int) : Prop := -40 ≤ s ∧ s ≤ 40 ∧ (s < 0 → (2 : Int) ^ (-s).toNat ∣ x)
def valD (vs : List Int) (d : Wd) : Int := mvI d.s (vs.getD d.a 0) + sgW d.w * mvI d.t (vs.getD d.b 0)
def valsW (xs : List Int) (ds : List Wd) : List Int := ds.foldl (fun vs d => vs ++ [valD vs d]) xs
structure VOk (xs : List Int) (ds : List Wd) : Prop where
  dk : ∀ (k : Nat) (d : Wd), ds[k]? = some d → d.a < xs.length + k ∧ d.b < xs.length + k ∧ Sh1 d.s ((valsW xs ds).getD d.a 0) ∧ Sh1 d.t ((valsW xs ds).getD d.b 0)
  vb : ∀ v ∈ valsW xs ds, v.natAbs < 2 ^ 9000
  xl : xs.length ≤ 12
  dl : ds.length ≤ 60
end L2
set_option Elab.async false
set_option linter.all false
set_option maxRecDepth 100000
set_option maxHeartbeats 1000000
namespace L2
open PySem PySem.Spec
structure VI (H : Hp) (p : Addr) (tb dl : Addr) (us : List V) (ds : List Wd) (H' : Hp) : Prop where
  tbl : H' tb = some (.lst ((valsW [1] ds).map V.int))
  dll : H' dl = some (.lst us)
  hds : HTs wTup H' us ds
  dk : ∀ (k : Nat) (d : Wd), ds[k]? = some d → d.a < 1 + k ∧ d.b < 1 + k ∧ Sh1 d.s ((valsW [1] ds).getD d.a 0) ∧ Sh1 d.t ((valsW [1] ds).getD d.b 0) ∧ (d.w = "sum" ∨ d.w = "less")
  vb : ∀ v ∈ valsW [1] ds, v.natAbs ≤ 2 ^ (41 * ds.length)
  chg : Chg p H H'
  ntb : H tb = none
  ndl : H dl = none
  tp : tb ≠ p
  dp : dl ≠ p
  td : tb ≠ dl
end L2
set_option Elab.async false
set_option linter.all false
set_option maxRecDepth 100000
set_option maxHeartbeats 1000000
namespace L2
open PySem PySem.Spec
end L2
set_option Elab.async false
set_option linter.all false
set_option maxRecDepth 100000
set_option maxHeartbeats 1000000
namespace L2
open PySem PySem.Spec PyProof PyProof.Rows
section
variable {P : Program} {w : World} {A : Around} {E : Value → Shared → Prop} {s : Shared}
end
section
variable {X : Cx}
end
end L2
set_option Elab.async false
set_option linter.all false
set_option maxRecDepth 100000
set_option maxHeartbeats 1000000
namespace L2
open PySem PySem.Spec
section
variable {K : PySem.W.Frag} {σ : St} {H : Hp} {D : Ends} {g : TG} {tb : TS} {a b : Addr}
end
section
variable {K : PySem.W.Frag} {σ : St} {H : Hp} {Q : VK} {cs : List Nat} {te : TE}
end
end L2
set_option Elab.async false
set_option linter.all false
set_option maxRecDepth 100000
set_option maxHeartbeats 1000000
namespace L2
open PySem PySem.Spec
section
variable {g : Int → Int → Int → Int → Int} {z : Int}
end
section
variable {g : Int → Int → Int → Int → Int} {z : Int}
end
structure DkOk (ins : Nat) (ds : List Wd) : Prop where
  dk : ∀ (k : Nat) (d : Wd), ds[k]? = some d → d.a < ins + k ∧ d.b < ins + k ∧ -40 ≤ d.s ∧ d.s ≤ 40 ∧ -40 ≤ d.t ∧ d.t ≤ 40 ∧ (d.w = "sum" ∨ d.w = "less")
  dl : ds.length ≤ 60
end L2
set_option Elab.async false
set_option linter.all false
set_option maxRecDepth 100000
set_option maxHeartbeats 1000000
namespace L2
open PySem PySem.Spec
end L2
set_option Elab.async false
set_option linter.all false
set_option maxRecDepth 100000
set_option maxHeartbeats 1000000
namespace L2
open PySem PySem.Spec
section
variable {K : PySem.W.Frag} {σ : St} {H : Hp} {Q : VK} {cs : List Nat} {te : TE}
end
end L2
set_option Elab.async false
set_option linter.all false
set_option maxRecDepth 100000
set_option maxHeartbeats 1000000
namespace L2
open PySem PySem.Spec PyProof.Rows
structure Far3 (z TI TO i1 i2 i3 l1 l2 l3 : Addr) : Prop where
  a1 : @LT.lt Nat _ l1 i1
  a2 : @LT.lt Nat _ l2 i1
  a3 : @LT.lt Nat _ l3 i1
  a4 : @LT.lt Nat _ i1 i2
  a5 : @LT.lt Nat _ i2 i3
  a6 : @LT.lt Nat _ i3 TI
  a7 : @LT.lt Nat _ TI TO
  a8 : @LT.lt Nat _ TO z
structure Ne3 (z TI TO i1 i2 i3 l1 l2 l3 : Addr) : Prop where
  TIz : TI ≠ z
  TOz : TO ≠ z
  i1z : i1 ≠ z
  i2z : i2 ≠ z
  i3z : i3 ≠ z
  TITO : TI ≠ TO
  TIi1 : TI ≠ i1
  TIi2 : TI ≠ i2
  TIi3 : TI ≠ i3
  TOi1 : TO ≠ i1
  TOi2 : TO ≠ i2
  TOi3 : TO ≠ i3
  i12 : i1 ≠ i2
  i13 : i1 ≠ i3
  i23 : i2 ≠ i3
  l1z : l1 ≠ z
  l2z : l2 ≠ z
  l3z : l3 ≠ z
  l1i1 : l1 ≠ i1
  l2i1 : l2 ≠ i1
  l2TO : l2 ≠ TO
  l3i1 : l3 ≠ i1
  l3i2 : l3 ≠ i2
  l3TO : l3 ≠ TO
  l2i2 : l2 ≠ i2
section
variable {prog : Program} {w : World} {A : Around} {E : Value → Shared → Prop} {s : Shared}
end
section
variable {prog : Program} {w : World} {A : Around} {E : Value → Shared → Prop} {s : Shared}
end
section
variable {K : PySem.W.Frag} {σ : St} {H : Hp} {D : Ends} {g : TG} {tb : TS} {a b c : Addr}
end
end L2
set_option Elab.async false
set_option linter.all false
set_option maxRecDepth 100000
set_option maxHeartbeats 1000000
namespace L2
open PySem PySem.Spec
end L2
set_option Elab.async false
set_option linter.all false
set_option maxRecDepth 100000
set_option maxHeartbeats 1000000
namespace L2
open PySem PySem.Spec PyProof PyProof.Rows
section
variable {prog : Program} {w : World} {A : Around} {E : Value → Shared → Prop} {s : Shared}
end
section
variable {prog : Program} {w : World} {A : Around} {E : Value → Shared → Prop} {s : Shared}
end
section
variable {K : PySem.W.Frag} {σ : St} {H : Hp} {Q : VK} {cs : List Nat} {te : TE}
end
section
variable {X : Cx}
end
end L2
set_option Elab.async false
set_option linter.all false
set_option maxRecDepth 100000
set_option maxHeartbeats 1000000
namespace L2
open PySem PySem.Spec
def Lies (w x : Int) : Prop := -(2 ^ (w - 1).toNat) ≤ x ∧ x < 2 ^ (w - 1).toNat
instance (w x : Int) : Decidable (Lies w x) := by unfold Lies; infer_instance
end L2
set_option Elab.async false
set_option linter.all false
set_option maxRecDepth 100000
set_option maxHeartbeats 1000000
namespace L2
open PySem PySem.Spec
end L2
set_option Elab.async false
set_option linter.all false
set_option maxRecDepth 100000
set_option maxHeartbeats 1000000
namespace L2
open PySem PySem.Spec
end L2
set_option Elab.async false
set_option linter.all false
set_option maxRecDepth 100000
set_option maxHeartbeats 1000000
namespace L2
open PySem PySem.Spec
theorem seq_in {t u : TS} {D : Ends} {σ : St} {H : Hp} (h : ∀ R : TS, R = u → tSeq t R D σ H) : tSeq t u D σ H := h u rfl
theorem seq_inG {g : TG} {x : V} {t u : TS} {D : Ends} {σ : St} {H : Hp} (h : ∀ R : TS, R = u → g x σ H fun σ2 H2 => tSeq t R D σ2 H2) : g x σ H fun σ2 H2 => tSeq t u D σ2 H2 := h u rfl
theorem seq_out {R u : TS} {D : Ends} {σ : St} {H : Hp} (e : R = u) (h : u D σ H) : R D σ H := by rw [e]; exact h
end L2
set_option Elab.async false
set_option linter.all false
set_option maxRecDepth 100000
set_option maxHeartbeats 1000000
namespace L2
open PySem PySem.Spec
section
variable {K : PySem.W.Frag} {σ : St} {H : Hp} {Q : VK} {cs : List Nat} {te : TE}
end
end L2
set_option Elab.async false
set_option linter.all false
set_option maxRecDepth 100000
set_option maxHeartbeats 1000000
namespace L2
open PySem PySem.Spec
section
variable {K : PySem.W.Frag} {σ : St} {H : Hp} {Q : VK} {cs : List Nat} {te : TE}
end
end L2
set_option Elab.async false
set_option linter.all false
set_option maxRecDepth 100000
set_option maxHeartbeats 1000000
namespace L2
open PySem PySem.Spec PyProof.Rows
def tLR2 (ta : TA) : TE := fun σ H Q => ta σ H fun vs H1 => ∃ (i : Int) (n : Nat), vs = [.int i, .int (i + (n : Int))] ∧ n ≤ 1000 ∧ -(2 ^ 31) ≤ i ∧ i < 2 ^ 31 ∧ ∀ l H', H1 l = none → Same H1 H' → H' l = some (.lst (rngV i n)) → Q (.ref l) H'
theorem w_LR2 {ta : TA} {σ : St} {H : Hp} {Q : VK} : tLR2 ta σ H Q = (ta σ H fun vs H1 => ∃ (i : Int) (n : Nat), vs = [.int i, .int (i + (n : Int))] ∧ n ≤ 1000 ∧ -(2 ^ 31) ≤ i ∧ i < 2 ^ 31 ∧ ∀ l H', H1 l = none → Same H1 H' → H' l = some (.lst (rngV i n)) → Q (.ref l) H') := rfl
theorem vals_rng2 (lo : Int) : ∀ (n k : Nat) (us : List Value), us.length = n → (∀ (j : Nat) (v : Value), us[j]? = some v → ∃ t, v = .int (lo + ((k + j : Nat) : Int) * 1) t) → Vals ((List.range' k n).map fun (i : Nat) => V.int (lo + (i : Int))) us
  | 0, k, us, hl, _ => by
    have : us = [] := List.eq_nil_of_length_eq_zero hl
    subst this
    exact .nil
  | n + 1, k, us, hl, hv => by
    cases us with
    | nil => cases hl
    | cons u us =>
      obtain ⟨t, e⟩ := hv 0 u rfl
      rw [List.range'_succ, List.map_cons]
      refine .cons ⟨t, by rw [e, Nat.add_zero, Int.mul_one]⟩ (vals_rng2 lo n (k + 1) us (by simpa using hl) fun j v h => ?_)
      obtain ⟨t, e⟩ := hv (j + 1) v h
      exact ⟨t, by rw [e, show k + (j + 1) = k + 1 + j by omega]⟩
theorem pe_listrange2 {X : Cx} {a b : Expr} {ta : TA} {p q pos pos2 : Pos} (hc : X.calm = true) (hg : Gl X "list") (hm : X.mg "list" = none) (hg2 : Gl X "range") (hm2 : X.mg "range" = none) (ha : PA X [a, b] ta) (hs : starEach [a, b] X.env = (false, eval a X.env) :: starEach [b] X.env := by rfl) (hpl : (backTo pos2 (starEach [b] X.env)).any (·.1) = false := by rfl)
    (he : starEach [.Call (.Name "range" q) [a, b] [] pos2] X.env = (false, eval (.Call (.Name "range" q) [a, b] [] pos2) X.env) :: starEach [] X.env := by rfl) (hpl2 : (backTo pos (starEach [] X.env)).any (·.1) = false := by rfl) :
    PE X (.Call (.Name "list" p) [.Call (.Name "range" q) [a, b] [] pos2] [] pos) (tLR2 ta) := by
  intro pins s σ H Q I h
  refine Call_ (ld_blt I hg hm bo_list (PyProof.Rows.callWith_type1 ?_ he hpl2))
  rw [he]
  show wpAny _ _ (spliced ((false, eval (.Call (.Name "range" q) [a, b] [] pos2) X.env) :: backTo pos (starEach [] X.env))) _ _ s
  refine Calls.spliced_cons (Call_ (ld_blt I hg2 hm2 boot_range (PyProof.Rows.callWith_type1 (thn (ha pos2 pins s σ H _ I h) fun us s1 ⟨vs, H1, I1, r1, q1⟩ => ?_) hs hpl)))
  obtain ⟨i, j, e, hj, i0, i1, fin⟩ := q1
  subst e
  obtain ⟨u, v, rfl, ⟨t, rfl⟩, ⟨t', rfl⟩⟩ := vals2 r1
  refine call_range_2 ?_
  show wpAny _ _ (spliced (backTo pos (starEach [] X.env))) _ _ _
  refine Calls.spliced_nil ?_
  have hsz : Builtin.Range.rangeSize i (i + (j : Int)) 1 = j := by
    unfold Builtin.Range.rangeSize
    rw [if_pos (by decide)]
    split <;> omega
  refine call_list_range (n := j) (I.ok.hd hc) (IsRange.new ..) ?_ hsz (by omega) fun h' tk acc c k' hS hit => ?_
  · exact small_one (by omega) (by omega) (by omega) (by omega)
  have k2 : ∀ b o, s1.heap.get? b = some o → h'.get? b = some o := fun b o e => k' b o (Heap.get?_push_of_some _ e)
  have lo : s1.heap.objs.size ≤ (s1.heap.push { cls := .type "range", data := .fields #[.int i t, .int (i + (j : Int)) t', .int 1 s1.toks] }).objs.size := by rw [Heap.size_push]; exact Nat.le_succ _
  have rv : Vals (rngV i j) acc.toList := by
    have := vals_rng2 i j 0 acc.toList (by rw [Array.length_toList]; exact hit.1) fun k v hv => by
      obtain ⟨t, e⟩ := hit.2 k v (by rw [← hv, Array.getElem?_toList])
      exact ⟨t, by rw [e, Nat.zero_add]⟩
    rw [← List.range_eq_range'] at this
    exact this
  have hn := I1.hok.fresh lo
  have IN := I1.laid (h' := h') (t' := tk) (o := .lst (rngV i j)) k2 lo ⟨le_size (by rw [rngV_len]; exact hj), acc.toList, c, rv, by rw [Array.toArray_toList]; exact hS⟩
  exact ⟨.ref _, _, IN, rfl, fin _ _ hn (same_new hn _) upd_same⟩
def Prt (K : PySem.W.Frag) (H : Hp) (v : V) : Prop := ∃ (p : Addr) (a b c : Int), v = .ref p ∧ SqT K H p [.int a, .int b, .int c] ∧ (c = 0 ∨ c = 1 ∨ c = -1)
def PrtN (H : Hp) (n : Nat) (v : V) : Prop := ∃ (p : Addr) (a b c : Int), v = .ref p ∧ H p = some (.tup [.int a, .int b, .int c]) ∧ 0 ≤ a ∧ a < n ∧ (c = 0 ∨ c = 1 ∨ c = -1)
theorem Prt.same {K : PySem.W.Frag} {H H' : Hp} {v : V} (h : Prt K H v) (s : Same H H') : Prt K H' v := by
  obtain ⟨p, a, b, c, e, h1, h2⟩ := h
  exact ⟨p, a, b, c, e, s.seqT h1, h2⟩
theorem PrtN.same {H H' : Hp} {n : Nat} {v : V} (h : PrtN H n v) (s : Same H H') : PrtN H' n v := by
  obtain ⟨p, a, b, c, e, h1, h2⟩ := h
  exact ⟨p, a, b, c, e, s _ _ h1, h2⟩
theorem PrtN.pt {K : PySem.W.Frag} {H : Hp} {n : Nat} {v : V} (h : PrtN H n v) : Prt K H v := by
  obtain ⟨p, a, b, c, e, h1, h2, h3, h4⟩ := h
  exact ⟨p, a, b, c, e, SqT.of h1, h4⟩
theorem sqT_chg {K : PySem.W.Frag} {H H' : Hp} {l p : Addr} {xs ys : List V} (h : SqT K H p xs) (hl : H l = some (.lst ys)) (C : Chg l H H') : SqT K H' p xs := by
  rcases h with (h | ⟨o, h⟩) | h
  · exact .inl (.inl (C _ _ (ne_of h hl (by intro z; cases z)) h))
  · exact .inl (.inr ⟨o, C _ _ (ne_of h hl (by intro z; cases z)) h⟩)
  · exact .inr h
theorem Prt.chg {K : PySem.W.Frag} {H H' : Hp} {l : Addr} {ys : List V} {v : V} (h : Prt K H v) (hl : H l = some (.lst ys)) (C : Chg l H H') : Prt K H' v := by
  obtain ⟨p, a, b, c, e, h1, h2⟩ := h
  exact ⟨p, a, b, c, e, sqT_chg h1 hl C, h2⟩
def spMovP (K : PySem.W.Frag) : Sp := fun vs H Q _ => ∃ (v : V) (s g : Int), vs = [v, .int s, .int g] ∧ Prt K H v ∧ (g = 0 ∨ g = 1 ∨ g = -1) ∧ ∀ r H', Same H H' → Prt K H' r → Q r H'
def spMovPs (K : PySem.W.Frag) : Sp := fun vs H Q _ => ∃ (l m : Addr) (ps ms : List V), vs = [.ref l, .ref m] ∧ H l = some (.lst ps) ∧ (∀ v ∈ ps, PrtN H ms.length v) ∧ H m = some (.lst ms) ∧ (∀ v ∈ ms, Prt K H v) ∧ ps.length ≤ 100 ∧
  ∀ r rs H', H r = none → Same H H' → H' r = some (.lst rs) → rs.length = ps.length → (∀ v ∈ rs, Prt K H' v) → Q (.ref r) H'
def spPartsOf : Sp := fun vs H Q _ => ∃ (x : Addr) (d : Wd) (n : Nat), vs = [.ref x] ∧ H x = some (.tup (wTup d)) ∧ d.a < n ∧ d.b < n ∧ ∀ r u v H', H r = none → Same H H' → H' r = some (.lst [u, v]) → PrtN H' n u → PrtN H' n v → Q (.ref r) H'
def spDeedOfP (K : PySem.W.Frag) : Sp := fun vs H Q _ => ∃ (u v : V), vs = [u, v] ∧ Prt K H u ∧ Prt K H v ∧ ∀ r xs H', H r = none → Same H H' → H' r = some (.tup xs) → Q (.ref r) H'
def spSignOfP (K : PySem.W.Frag) : Sp := fun vs H Q _ => ∃ (u v : V), vs = [u, v] ∧ Prt K H u ∧ Prt K H v ∧ ∀ g : Int, (g = 0 ∨ g = 1 ∨ g = -1) → Q (.int g) H
def spAddSum (K : PySem.W.Frag) : Sp := fun vs H Q _ => ∃ (ins : Int) (l : Addr) (u v : V) (xs : List V), vs = [.int ins, .ref l, u, v] ∧ H l = some (.lst xs) ∧ xs.length ≤ 1000 ∧ Prt K H u ∧ Prt K H v ∧ ∀ r ys H', Chg l H H' → H' l = some (.lst ys) → ys.length ≤ xs.length + 1 → Prt K H' r → Q r H'
def spDThings : Sp := fun vs H Q _ => ∃ (st : Int) (x dl gl : Addr) (i : Int) (us : List V), vs = [.int st, .ref x] ∧ H x = some (.tup [.int i, .ref dl, .ref gl]) ∧ H dl = some (.lst us) ∧ us.length ≤ 100 ∧ 0 ≤ st ∧ st ≤ 1000 ∧ ∀ r H', H r = none → Same H H' → H' r = some (.lst (rngV st us.length)) → Q (.ref r) H'
structure WbJ (H : Hp) (x dl gl : Addr) (ins : Nat) (us : List V) (ds : List Wd) (os : List V) : Prop where
  tup : H x = some (.tup [.int ins, .ref dl, .ref gl])
  dll : H dl = some (.lst us)
  hds : HTs wTup H us ds
  gll : H gl = some (.lst os)
  go : ∀ v ∈ os, PrtN H (ins + ds.length) v
  dk : ∀ (k : Nat) (d : Wd), ds[k]? = some d → d.a < ins + k ∧ d.b < ins + k ∧ (d.w = "sum" ∨ d.w = "less")
  dl6 : ds.length ≤ 6
  ol : os.length ≤ 12
  i1 : 1 ≤ ins
  i12 : ins ≤ 12
theorem WbJ.same {H H' : Hp} {x dl gl : Addr} {ins : Nat} {us : List V} {ds : List Wd} {os : List V} (h : WbJ H x dl gl ins us ds os) (s : Same H H') : WbJ H' x dl gl ins us ds os :=
  ⟨s _ _ h.tup, s _ _ h.dll, h.hds.same s, s _ _ h.gll, fun v hv => (h.go v hv).same s, h.dk, h.dl6, h.ol, h.i1, h.i12⟩
def spRenum (K : PySem.W.Frag) : Sp := fun vs H Q _ => ∃ (x dl gl t : Addr) (ins : Nat) (us : List V) (ds : List Wd) (os : List V) (ns : List Int), vs = [.ref x, .ref t] ∧ WbJ H x dl gl ins us ds os ∧ H t = some (.lst (ns.map V.int)) ∧ ns.length = ins + ds.length ∧
  ∀ r d2 g2 xs ys H', H r = none → Same H H' → H' r = some (.tup [.int ins, .ref d2, .ref g2]) → H' d2 = some (.lst xs) → xs.length = ds.length → H' g2 = some (.lst ys) → ys.length = os.length → Q (.ref r) H'
def spPutT (J : Addr) : Sp := fun vs H Q E => ∃ (ins : Int) (a b d1 g1 d2 g2 : Addr) (i j : Int) (x1 y1 x2 y2 : List V), vs = [.int ins, .ref a, .ref b] ∧ H a = some (.tup [.int i, .ref d1, .ref g1]) ∧ H b = some (.tup [.int j, .ref d2, .ref g2]) ∧ H d1 = some (.lst x1) ∧ H g1 = some (.lst y1) ∧ H d2 = some (.lst x2) ∧ H g2 = some (.lst y2) ∧ x1.length ≤ 100 ∧ x2.length ≤ 100 ∧ y1.length ≤ 100 ∧ y2.length ≤ 100 ∧
  (12 < y1.length + y2.length → ∀ H', Same H H' → E (.ref J) none H') ∧ (y1.length + y2.length ≤ 12 → ∀ r H', Same H H' → Q r H')
def refJ (w : Str) (i1 o1 i2 o2 : Nat) : Prop := if w = "behind" then o1 ≠ i2 else if w = "beside" then 12 < i1 + i2 ∨ 12 < o1 + o2 else i1 ≠ i2 ∨ 12 < o1 + o2
def spJoin (w : Str) (J : Addr) : Sp := fun vs H Q E => ∃ (a b d1 g1 d2 g2 : Addr) (i1 i2 : Nat) (u1 u2 : List V) (s1 s2 : List Wd) (o1 o2 : List V), vs = [.ref a, .ref b] ∧ WbJ H a d1 g1 i1 u1 s1 o1 ∧ WbJ H b d2 g2 i2 u2 s2 o2 ∧
  (refJ w i1 o1.length i2 o2.length → ∀ H', Same H H' → E (.ref J) none H') ∧ (¬ refJ w i1 o1.length i2 o2.length → ∀ r H', Same H H' → Q r H')
end L2
set_option Elab.async false
set_option linter.all false
set_option maxRecDepth 100000
set_option maxHeartbeats 1000000
namespace L2
open PySem PySem.Spec PyProof.Rows
def rNotB : R2 := fun x y H Q => ∃ c, y = .bl c ∧ ((∃ b, x = .bl b ∧ Q (.bl (!decide (b = c))) H) ∨ (x = .non ∧ Q (.bl true) H))
theorem op_notB {X : Cx} : OpR X (compareOp .IsNot) rNotB := by
  rintro pins s σ H x y v u Q I r1 r2 ⟨c, rfl, h⟩
  cases r2
  rcases h with ⟨b, rfl, q⟩ | ⟨rfl, q⟩
  · cases r1
    refine wpAny_isNot_plain rfl ⟨.bl _, H, I, ?_, q⟩
    cases b <;> cases c <;> rfl
  · cases r1
    exact wpAny_isNot_plain rfl ⟨.bl true, H, I, rfl, q⟩
def wwDt (i1 : Nat) (d1 : List Wd) (g1 : List Go) (i2 : Nat) (d2 : List Wd) (g2 : List Go) : Dt := .l [webDt i1 d1 g1, webDt i2 d2 g2]
theorem ww_is {K : PySem.W.Frag} {H : Hp} {l w dl gl v dk gk : Addr} {i1 i2 : Nat} {u1 u2 o1 o2 : List V} {d1 d2 : List Wd} {g1 g2 : List Go} (hl : H l = some (.lst [.ref w, .ref v])) (h : Wb H w dl gl i1 u1 d1 o1 g1) (h' : Wb H v dk gk i2 u2 d2 o2 g2) : Is K H (.ref l) (wwDt i1 d1 g1 i2 d2 g2) := by
  unfold wwDt
  rw [Is]
  refine ⟨l, _, rfl, SqL.of hl, ?_⟩
  rw [IsL]
  refine ⟨_, _, rfl, h.is, ?_⟩
  rw [IsL]
  exact ⟨_, _, rfl, h'.is, by rw [IsL]⟩
theorem dep_ww (i1 : Nat) (d1 : List Wd) (g1 : List Go) (i2 : Nat) (d2 : List Wd) (g2 : List Go) : dep (wwDt i1 d1 g1 i2 d2 g2) ≤ 50 := by
  unfold wwDt webDt
  have h1 := depL_tups (f := wTup) d1
  have h2 := depL_tups (f := gTp) g1
  have h3 := depL_tups (f := wTup) d2
  have h4 := depL_tups (f := gTp) g2
  simp only [dep, depL]
  omega
theorem ne_ww {K : PySem.W.Frag} {H : Hp} {l w dl gl v dk gk l' w' dl' gl' v' dk' gk' : Addr} {i1 i2 : Nat} {u1 u2 o1 o2 u1' u2' o1' o2' : List V} {d1 d2 : List Wd} {g1 g2 : List Go} {Q : VK}
    (hl : H l = some (.lst [.ref w, .ref v])) (h1 : Wb H w dl gl i1 u1 d1 o1 g1) (h2 : Wb H v dk gk i2 u2 d2 o2 g2) (hl' : H l' = some (.lst [.ref w', .ref v'])) (h1' : Wb H w' dl' gl' i1 u1' d1 o1' g1) (h2' : Wb H v' dk' gk' i2 u2' d2 o2' g2) (q : Q (.bl false) H) : rNeD K (.ref l) (.ref l') H Q :=
  ⟨l, _, _, rfl, ww_is hl h1 h2, ww_is hl' h1' h2', dep_ww _ _ _ _ _ _, by rw [deq_refl _ (ww_is (K := K) hl h1 h2)]; exact q⟩
structure Wk (H : Hp) (x dl gl : Addr) (ins : Nat) (us : List V) (ds : List Wd) (os : List V) (gs : List Go) : Prop where
  wb : Wb H x dl gl ins us ds os gs
  dk : ∀ (k : Nat) (d : Wd), ds[k]? = some d → d.a < ins + k ∧ d.b < ins + k ∧ (d.w = "sum" ∨ d.w = "less")
  gk : ∀ g ∈ gs, g.th < ins + ds.length ∧ (g.sg = 0 ∨ g.sg = 1 ∨ g.sg = -1)
  dl6 : ds.length ≤ 6
  ol : gs.length ≤ 12
  i1 : 1 ≤ ins
  i12 : ins ≤ 12
section
variable {H H' : Hp} {x dl gl : Addr} {ins : Nat} {us : List V} {ds : List Wd} {os : List V} {gs : List Go}
theorem Wk.same (h : Wk H x dl gl ins us ds os gs) (s : Same H H') : Wk H' x dl gl ins us ds os gs := ⟨h.wb.same s, h.dk, h.gk, h.dl6, h.ol, h.i1, h.i12⟩
theorem Wk.chg {l : Addr} {xs : List V} (h : Wk H x dl gl ins us ds os gs) (hl : H l = some (.lst xs)) (h1 : dl ≠ l) (h2 : gl ≠ l) (c : Chg l H H') : Wk H' x dl gl ins us ds os gs := ⟨h.wb.chg hl h1 h2 c, h.dk, h.gk, h.dl6, h.ol, h.i1, h.i12⟩
theorem Wk.j (h : Wk H x dl gl ins us ds os gs) : WbJ H x dl gl ins us ds os := by
  have hl := h.wb.hgs.len
  refine ⟨h.wb.tup, h.wb.dll, h.wb.hds, h.wb.gll, fun v hv => ?_, h.dk, h.dl6, by rw [hl]; exact h.ol, h.i1, h.i12⟩
  obtain ⟨i, hi, ev⟩ := List.getElem_of_mem hv
  have e : gs[i]? = some (gs[i]'(by omega)) := List.getElem?_eq_getElem _
  obtain ⟨p, h1, h2⟩ := h.wb.hgs.at_ i _ e
  rw [List.getElem?_eq_getElem hi] at h1
  have e5 := Option.some.inj h1
  obtain ⟨a, b⟩ := h.gk _ (List.mem_of_getElem? e)
  exact ⟨p, _, _, _, by rw [← ev, e5], h2, by omega, by omega, b⟩
end
theorem same_chg {H H1 H2 : Hp} {l : Addr} (n : H l = none) (s : Same H H1) (c : Chg l H1 H2) : Same H H2 := fun b o q => c b o (ne_of_none q n) (s b o q)
def rngI (lo : Int) (n : Nat) : List Int := (List.range n).map fun (i : Nat) => lo + (i : Int)
theorem rng_two (a b : Int) (n m : Nat) : rngV a n ++ rngV b m = (rngI a n ++ rngI b m).map V.int := by
  unfold rngV rngI
  rw [List.map_append, List.map_map, List.map_map]
  rfl
theorem rngI_len {lo : Int} {n : Nat} : (rngI lo n).length = n := by unfold rngI; rw [List.length_map, List.length_range]
theorem notB_t {H : Hp} {Q : VK} (h : Q (.bl false) H) : rNotB (.bl true) (.bl true) H Q := ⟨true, rfl, .inl ⟨true, rfl, h⟩⟩
def spJoined (J : Addr) : Sp := fun vs H Q E => ∃ (w : Str) (a b : Addr), vs = [.str w, .ref a, .ref b] ∧ spJoin w J [.ref a, .ref b] H Q E
def spHeard : Sp := fun vs H Q _ => ∃ (w : Str) (a b d1 g1 d2 g2 : Addr) (i1 i2 : Nat) (u1 u2 : List V) (s1 s2 : List Wd) (o1 o2 : List V) (t1 t2 : List Go), vs = [.str w, .ref a, .ref b] ∧ Wk H a d1 g1 i1 u1 s1 o1 t1 ∧ Wk H b d2 g2 i2 u2 s2 o2 t2 ∧
  (refJ w i1 t1.length i2 t2.length → ∀ H', Same H H' → Q (.bl true) H') ∧ (¬ refJ w i1 t1.length i2 t2.length → ∀ H', Same H H' → Q .non H')
def spWebJ (K : PySem.W.Frag) : Sp := fun vs H Q _ => ∃ (p a : Addr) (ns : List Int) (c : Int) (ins many : Nat), vs = [.ref p, .int ins, .int many] ∧ LPen H p a c ∧ Scr K H a ns ∧ ns.length ≤ 63 ∧ c ≤ 100000000 ∧ 1 ≤ ins ∧ ins ≤ 12 ∧ many ≤ 12 ∧
  ∀ x dl gl us ds os gs H', Wk H' x dl gl ins us ds os gs → gs.length = many → dl ≠ p → gl ≠ p → LPen H' p a (c + 200) → Scr K H' a ns → Chg p H H' → Q (.ref x) H'
theorem webJ_ {K : PySem.W.Frag} {H : Hp} {p a : Addr} {ns : List Int} {c n m : Int} {Q : VK} {E : XK} (ins many : Nat) (hn : n = ins) (hm : m = many) (hP : LPen H p a c) (hS : Scr K H a ns) (h63 : ns.length ≤ 63) (hc : c ≤ 100000000) (h1 : 1 ≤ ins) (h2 : ins ≤ 12) (h3 : many ≤ 12)
    (q : ∀ x dl gl us ds os gs H', Wk H' x dl gl ins us ds os gs → gs.length = many → dl ≠ p → gl ≠ p → LPen H' p a (c + 200) → Scr K H' a ns → Chg p H H' → Q (.ref x) H') : spWebJ K [.ref p, .int n, .int m] H Q E :=
  ⟨p, a, ns, c, ins, many, by rw [hn, hm], hP, hS, h63, hc, h1, h2, h3, q⟩
def spUnl (K : PySem.W.Frag) : Sp := fun vs H Q _ => ∃ (p a : Addr) (ns : List Int) (c n : Int), vs = [.ref p, .int n] ∧ LPen H p a c ∧ Scr K H a ns ∧ ns.length ≤ 63 ∧ c ≤ 100000000 ∧ 0 ≤ n ∧ n ≤ 12 ∧
  ∀ (r : Nat) H', 1 ≤ r → r ≤ 12 → (r : Int) ≠ n → LPen H' p a (c + 10) → Scr K H' a ns → Chg p H H' → Q (.int r) H'
def spOver (K : PySem.W.Frag) : Sp := fun vs H Q _ => ∃ (p a : Addr) (ns : List Int) (c : Int), vs = [.ref p] ∧ LPen H p a c ∧ Scr K H a ns ∧ ns.length ≤ 63 ∧ c ≤ 100000000 ∧
  ∀ l (x y : Nat) H', 1 ≤ x → x ≤ 12 → y ≤ 12 → 12 < x + y → H' l = some (.lst [.int x, .int y]) → l ≠ p → LPen H' p a (c + 10) → Scr K H' a ns → Chg p H H' → Q (.ref l) H'
theorem lpick2 {K : PySem.W.Frag} {H : Hp} {p a : Addr} {ns : List Int} {c : Int} {u v : V} {Q : VK} {E : XK} (hP : LPen H p a c) (hS : Scr K H a ns) (h63 : ns.length ≤ 63) (hc : c ≤ 1000000000)
    (q : ∀ (b : Bool) H', LPen H' p a (c + 1) → Scr K H' a ns → Chg p H H' → Q (if b then u else v) H') : ∀ l, H l = none → spLTake K [.ref p, .int 2] (upd H l (.lst [u, v])) (fun y H2 => rIxM (.ref l) y H2 Q) E := by
  intro l nl
  have s := same_new nl (.lst [u, v])
  refine ltake_ (hP.same s) (hS.same s) h63 hc (by decide) (by decide) fun r H2 r0 r1 P2 S2 C2 => ?_
  have hl := C2 _ _ (hP.ne nl) (show upd H l (.lst [u, v]) l = some (.lst [u, v]) from upd_same)
  have C3 : Chg p H H2 := s.chg.trans C2
  have : r = 0 ∨ r = 1 := by omega
  rcases this with z | z <;> subst z
  · exact ⟨l, _, 0, u, rfl, rfl, hl, rfl, q true H2 P2 S2 C3⟩
  · exact ⟨l, _, 1, v, rfl, rfl, hl, rfl, q false H2 P2 S2 C3⟩
structure GrT {α : Type} (f : α → List V) (H0 : Hp) (p dl : Addr) (us : List V) (ds : List α) (H : Hp) : Prop where
  dll : H dl = some (.lst us)
  hds : HTs f H us ds
  nd : H0 dl = none
  dp : dl ≠ p
section
variable {α : Type} {f : α → List V} {H0 H H' : Hp} {p dl : Addr} {us : List V} {ds : List α}
theorem GrT.same (h : GrT f H0 p dl us ds H) (s : Same H H') : GrT f H0 p dl us ds H' := ⟨s _ _ h.dll, h.hds.same s, h.nd, h.dp⟩
theorem GrT.step {a : Addr} {c : Int} (h : GrT f H0 p dl us ds H) (hP : LPen H p a c) (s : Chg p H H') : GrT f H0 p dl us ds H' := by
  obtain ⟨xs, hx⟩ := hP.lst
  exact ⟨s _ _ h.dp h.dll, h.hds.chgL hx s, h.nd, h.dp⟩
theorem GrT.snoc {x : α} {q : Addr} (h : GrT f H0 p dl us ds H) (hq : H q = some (.tup (f x))) : GrT f H0 p dl (us ++ [.ref q]) (ds ++ [x]) (upd H dl (.lst (us ++ [.ref q]))) :=
  ⟨upd_same, (h.hds.snoc hq).chgL h.dll (Chg.upd _), h.nd, h.dp⟩
theorem GrT.other {dl' : Addr} {xs : List V} (h : GrT f H0 p dl us ds H) (hl : H dl' = some (.lst xs)) (n : dl ≠ dl') (s : Chg dl' H H') : GrT f H0 p dl us ds H' := ⟨s _ _ n h.dll, h.hds.chgL hl s, h.nd, h.dp⟩
theorem Chg.two {H H1 H2 : Hp} {p l : Addr} (c : Chg p H H1) (n : H l = none) (d : Chg l H1 H2) : Chg p H H2 := fun b o hb q => d b o (ne_of_none q n) (c b o hb q)
end
theorem Wk.lp {H H' : Hp} {x dl gl p a : Addr} {ins : Nat} {us : List V} {ds : List Wd} {os : List V} {gs : List Go} {c : Int} (h : Wk H x dl gl ins us ds os gs) (hP : LPen H p a c) (h1 : dl ≠ p) (h2 : gl ≠ p) (s : Chg p H H') : Wk H' x dl gl ins us ds os gs := by
  obtain ⟨xs, hx⟩ := hP.lst
  exact h.chg hx h1 h2 s
section
variable {H : Hp} {w : Str} {a b d1 g1 d2 g2 : Addr} {i1 i2 : Nat} {u1 u2 : List V} {s1 s2 : List Wd} {o1 o2 : List V} {t1 t2 : List Go} {Q : VK} {E : XK}
theorem heardT (W1 : Wk H a d1 g1 i1 u1 s1 o1 t1) (W2 : Wk H b d2 g2 i2 u2 s2 o2 t2) (hr : refJ w i1 t1.length i2 t2.length) (q : ∀ H', Same H H' → Q (.bl false) H') : spHeard [.str w, .ref a, .ref b] H (fun y H2 => rNotB y (.bl true) H2 Q) E :=
  ⟨w, a, b, d1, g1, d2, g2, i1, i2, u1, u2, s1, s2, o1, o2, t1, t2, rfl, W1, W2, fun _ H' s => notB_t (q H' s), fun z => absurd hr z⟩
theorem heardN (W1 : Wk H a d1 g1 i1 u1 s1 o1 t1) (W2 : Wk H b d2 g2 i2 u2 s2 o2 t2) (hr : ¬ refJ w i1 t1.length i2 t2.length) (q : ∀ H', Same H H' → Q .non H') : spHeard [.str w, .ref a, .ref b] H Q E :=
  ⟨w, a, b, d1, g1, d2, g2, i1, i2, u1, u2, s1, s2, o1, o2, t1, t2, rfl, W1, W2, fun z => absurd z hr, fun _ => q⟩
end
theorem ref_behind {i1 o1 i2 o2 : Nat} : refJ "behind" i1 o1 i2 o2 ↔ o1 ≠ i2 := by unfold refJ; rw [if_pos rfl]
theorem ref_beside {i1 o1 i2 o2 : Nat} : refJ "beside" i1 o1 i2 o2 ↔ (12 < i1 + i2 ∨ 12 < o1 + o2) := by unfold refJ; rw [if_neg (by decide), if_pos rfl]
theorem ref_both {i1 o1 i2 o2 : Nat} : refJ "both" i1 o1 i2 o2 ↔ (i1 ≠ i2 ∨ 12 < o1 + o2) := by unfold refJ; rw [if_neg (by decide), if_neg (by decide)]
theorem if_rest {c B : Prop} [Decidable c] {A : Hp → Prop} {H0 H : Hp} (s : Same H0 H) (hB : c → (∀ H', Same H0 H' → A H') → B) (hA : ∀ H', Same H0 H' → A H') : if c then B else A H := by
  split
  · exact hB ‹_› hA
  · exact hA H s
end L2
end

section
set_option Elab.async false
set_option linter.all false
set_option maxRecDepth 100000
set_option maxHeartbeats 4000000
namespace Law
open PySem L2
def top (i : Nat) : Stmt := PySem.Challenge.pw_shiftsums_k41_joins_refused.main.body.getD i (.Pass ⟨0, 0, 0, 0⟩)
abbrev s_second_sign : Stmt := top 14
theorem sc_second_sign : FnScope ["deed"] ["deed"] (defScope s_second_sign) := ⟨rfl, rfl, rfl, by decide +kernel, rfl, by decide +kernel, by decide +kernel⟩
abbrev s_thing_count : Stmt := top 15
theorem sc_thing_count : FnScope ["web"] ["web"] (defScope s_thing_count) := ⟨rfl, rfl, rfl, by decide +kernel, rfl, by decide +kernel, by decide +kernel⟩
abbrev s_parts_of : Stmt := top 17
theorem sc_parts_of : FnScope ["deed"] ["deed"] (defScope s_parts_of) := ⟨rfl, rfl, rfl, by decide +kernel, rfl, by decide +kernel, by decide +kernel⟩
abbrev s_moved : Stmt := top 18
theorem sc_moved : FnScope ["part", "shift", "sign"] ["part", "shift", "sign"] (defScope s_moved) := ⟨rfl, rfl, rfl, by decide +kernel, rfl, by decide +kernel, by decide +kernel⟩
abbrev s_deed_of : Stmt := top 19
theorem sc_deed_of : FnScope ["one", "other"] ["one", "other"] (defScope s_deed_of) := ⟨rfl, rfl, rfl, by decide +kernel, rfl, by decide +kernel, by decide +kernel⟩
abbrev s_sign_of : Stmt := top 20
theorem sc_sign_of : FnScope ["one", "other"] ["one", "other"] (defScope s_sign_of) := ⟨rfl, rfl, rfl, by decide +kernel, rfl, by decide +kernel, by decide +kernel⟩
abbrev s_add_sum : Stmt := top 21
theorem sc_add_sum : FnScope ["ins", "deeds", "one", "other"] ["ins", "deeds", "one", "other"] (defScope s_add_sum) := ⟨rfl, rfl, rfl, by decide +kernel, rfl, by decide +kernel, by decide +kernel⟩
abbrev s_behind : Stmt := top 23
theorem sc_behind : FnScope ["one", "other", "ins", "deeds", "stands", "deed", "parts"] ["one", "other"] (defScope s_behind) := ⟨rfl, rfl, rfl, by decide +kernel, rfl, by decide +kernel, by decide +kernel⟩
abbrev s_moved_parts : Stmt := top 24
theorem sc_moved_parts : FnScope ["parts", "stands"] ["parts", "stands"] (defScope s_moved_parts) := ⟨rfl, rfl, rfl, by decide +kernel, rfl, by decide +kernel, by decide +kernel⟩
abbrev s_beside : Stmt := top 25
theorem sc_beside : FnScope ["one", "other", "ins", "ones", "others"] ["one", "other"] (defScope s_beside) := ⟨rfl, rfl, rfl, by decide +kernel, rfl, by decide +kernel, by decide +kernel⟩
abbrev s_both : Stmt := top 26
theorem sc_both : FnScope ["one", "other", "ins", "others"] ["one", "other"] (defScope s_both) := ⟨rfl, rfl, rfl, by decide +kernel, rfl, by decide +kernel, by decide +kernel⟩
abbrev s_deed_things : Stmt := top 27
theorem sc_deed_things : FnScope ["start", "web"] ["start", "web"] (defScope s_deed_things) := ⟨rfl, rfl, rfl, by decide +kernel, rfl, by decide +kernel, by decide +kernel⟩
abbrev s_renumbered : Stmt := top 28
theorem sc_renumbered : FnScope ["web", "things", "deeds", "stands"] ["web", "things"] (defScope s_renumbered) := ⟨rfl, rfl, rfl, by decide +kernel, rfl, by decide +kernel, by decide +kernel⟩
abbrev s_put_together : Stmt := top 29
theorem sc_put_together : FnScope ["ins", "one", "other", "outs"] ["ins", "one", "other"] (defScope s_put_together) := ⟨rfl, rfl, rfl, by decide +kernel, rfl, by decide +kernel, by decide +kernel⟩
abbrev s_l_pen : Stmt := top 31
theorem sc_l_pen : FnScope ["_law_script"] ["_law_script"] (defScope s_l_pen) := ⟨rfl, rfl, rfl, by decide +kernel, rfl, by decide +kernel, by decide +kernel⟩
abbrev s_l_take : Stmt := top 32
theorem sc_l_take : FnScope ["_law_pen_here", "_law_many", "_law_script", "_law_at", "_law_left", "_law_cell", "_law_number"] ["_law_pen_here", "_law_many"] (defScope s_l_take) := ⟨rfl, rfl, rfl, by decide +kernel, rfl, by decide +kernel, by decide +kernel⟩
abbrev s_l_web : Stmt := top 33
theorem sc_l_web : FnScope ["_law_pen_here", "_law_ins", "_law_many", "_law_deeds", "_law_k", "_law_a", "_law_b", "_law_goals", "_law_goal"] ["_law_pen_here", "_law_ins", "_law_many"] (defScope s_l_web) := ⟨rfl, rfl, rfl, by decide +kernel, rfl, by decide +kernel, by decide +kernel⟩
abbrev s_l_joined : Stmt := top 34
theorem sc_l_joined : FnScope ["_law_word", "_law_one", "_law_other"] ["_law_word", "_law_one", "_law_other"] (defScope s_l_joined) := ⟨rfl, rfl, rfl, by decide +kernel, rfl, by decide +kernel, by decide +kernel⟩
abbrev s_l_heard : Stmt := top 35
theorem sc_l_heard : FnScope ["_law_word", "_law_one", "_law_other", "_law_caught", "_law_handed", "e"] ["_law_word", "_law_one", "_law_other"] (defScope s_l_heard) := ⟨rfl, rfl, rfl, by decide +kernel, rfl, by decide +kernel, by decide +kernel⟩
abbrev s_l_unlike : Stmt := top 36
theorem sc_l_unlike : FnScope ["_law_pen_here", "_law_number", "_law_one_off", "_law_other"] ["_law_pen_here", "_law_number"] (defScope s_l_unlike) := ⟨rfl, rfl, rfl, by decide +kernel, rfl, by decide +kernel, by decide +kernel⟩
abbrev s_l_over : Stmt := top 37
theorem sc_l_over : FnScope ["_law_pen_here", "_law_one"] ["_law_pen_here"] (defScope s_l_over) := ⟨rfl, rfl, rfl, by decide +kernel, rfl, by decide +kernel, by decide +kernel⟩
abbrev s_law : Stmt := top 38
theorem sc_law : FnScope ["_law_script", "_law_pen_here", "_law_turn", "_law_many", "_law_one", "_law_far", "_law_fit", "_law_other", "_law_same_ins", "_law_ins", "_law_goals", "_law_wide", "_law_thick", "_law_left", "_law_right"] ["_law_script"] (defScope s_law) := ⟨rfl, rfl, rfl, by decide +kernel, rfl, by decide +kernel, by decide +kernel⟩
structure Bl (mg : Str → Option Value) : Prop where
  ValueError : mg "ValueError" = none
  abs : mg "abs" = none
  int : mg "int" = none
  isinstance : mg "isinstance" = none
  len : mg "len" = none
  list : mg "list" = none
  max : mg "max" = none
  range : mg "range" = none
structure Txt (K : PySem.W.Frag) (mg : Str → Option Value) : Prop where
  bl : Bl mg
  t_second_sign : ∃ (f : Addr) (fd : FuncData), Fun K "second_sign" "second_sign" s_second_sign f fd ∧ mg "second_sign" = some (.ref f) ∧ Binds K fd ["deed"] []
  t_thing_count : ∃ (f : Addr) (fd : FuncData), Fun K "thing_count" "thing_count" s_thing_count f fd ∧ mg "thing_count" = some (.ref f) ∧ Binds K fd ["web"] []
  t_parts_of : ∃ (f : Addr) (fd : FuncData), Fun K "parts_of" "parts_of" s_parts_of f fd ∧ mg "parts_of" = some (.ref f) ∧ Binds K fd ["deed"] []
  t_moved : ∃ (f : Addr) (fd : FuncData), Fun K "moved" "moved" s_moved f fd ∧ mg "moved" = some (.ref f) ∧ Binds K fd ["part", "shift", "sign"] []
  t_deed_of : ∃ (f : Addr) (fd : FuncData), Fun K "deed_of" "deed_of" s_deed_of f fd ∧ mg "deed_of" = some (.ref f) ∧ Binds K fd ["one", "other"] []
  t_sign_of : ∃ (f : Addr) (fd : FuncData), Fun K "sign_of" "sign_of" s_sign_of f fd ∧ mg "sign_of" = some (.ref f) ∧ Binds K fd ["one", "other"] []
  t_add_sum : ∃ (f : Addr) (fd : FuncData), Fun K "add_sum" "add_sum" s_add_sum f fd ∧ mg "add_sum" = some (.ref f) ∧ Binds K fd ["ins", "deeds", "one", "other"] []
  t_behind : ∃ (f : Addr) (fd : FuncData), Fun K "behind" "behind" s_behind f fd ∧ mg "behind" = some (.ref f) ∧ Binds K fd ["one", "other"] []
  t_moved_parts : ∃ (f : Addr) (fd : FuncData), Fun K "moved_parts" "moved_parts" s_moved_parts f fd ∧ mg "moved_parts" = some (.ref f) ∧ Binds K fd ["parts", "stands"] []
  t_beside : ∃ (f : Addr) (fd : FuncData), Fun K "beside" "beside" s_beside f fd ∧ mg "beside" = some (.ref f) ∧ Binds K fd ["one", "other"] []
  t_both : ∃ (f : Addr) (fd : FuncData), Fun K "both" "both" s_both f fd ∧ mg "both" = some (.ref f) ∧ Binds K fd ["one", "other"] []
  t_deed_things : ∃ (f : Addr) (fd : FuncData), Fun K "deed_things" "deed_things" s_deed_things f fd ∧ mg "deed_things" = some (.ref f) ∧ Binds K fd ["start", "web"] []
  t_renumbered : ∃ (f : Addr) (fd : FuncData), Fun K "renumbered" "renumbered" s_renumbered f fd ∧ mg "renumbered" = some (.ref f) ∧ Binds K fd ["web", "things"] []
  t_put_together : ∃ (f : Addr) (fd : FuncData), Fun K "put_together" "put_together" s_put_together f fd ∧ mg "put_together" = some (.ref f) ∧ Binds K fd ["ins", "one", "other"] []
  t_l_pen : ∃ (f : Addr) (fd : FuncData), Fun K "_law_pen" "_law_pen" s_l_pen f fd ∧ mg "_law_pen" = some (.ref f) ∧ Binds K fd ["_law_script"] []
  t_l_take : ∃ (f : Addr) (fd : FuncData), Fun K "_law_take" "_law_take" s_l_take f fd ∧ mg "_law_take" = some (.ref f) ∧ Binds K fd ["_law_pen_here", "_law_many"] []
  t_l_web : ∃ (f : Addr) (fd : FuncData), Fun K "_law_web" "_law_web" s_l_web f fd ∧ mg "_law_web" = some (.ref f) ∧ Binds K fd ["_law_pen_here", "_law_ins", "_law_many"] []
  t_l_joined : ∃ (f : Addr) (fd : FuncData), Fun K "_law_joined" "_law_joined" s_l_joined f fd ∧ mg "_law_joined" = some (.ref f) ∧ Binds K fd ["_law_word", "_law_one", "_law_other"] []
  t_l_heard : ∃ (f : Addr) (fd : FuncData), Fun K "_law_heard" "_law_heard" s_l_heard f fd ∧ mg "_law_heard" = some (.ref f) ∧ Binds K fd ["_law_word", "_law_one", "_law_other"] []
  t_l_unlike : ∃ (f : Addr) (fd : FuncData), Fun K "_law_unlike" "_law_unlike" s_l_unlike f fd ∧ mg "_law_unlike" = some (.ref f) ∧ Binds K fd ["_law_pen_here", "_law_number"] []
  t_l_over : ∃ (f : Addr) (fd : FuncData), Fun K "_law_over" "_law_over" s_l_over f fd ∧ mg "_law_over" = some (.ref f) ∧ Binds K fd ["_law_pen_here"] []
  t_law : ∃ (f : Addr) (fd : FuncData), Fun K "law" "law" s_law f fd ∧ mg "law" = some (.ref f) ∧ Binds K fd ["_law_script"] []
  c_NO_OUT : ∃ t : Addr, mg "NO_OUT" = some (.ref t) ∧ CT0 K t
  i_MOST_INS : ∃ tk : Tok, mg "MOST_INS" = some (.int 12 tk)
  i_MOST_OUTS : ∃ tk : Tok, mg "MOST_OUTS" = some (.int 12 tk)
  cls : ∃ (cst_ShiftError cst_NoWeb cst_Down cst_NoText cst_NoJoin cst_TooMany cst_NoRow cst_NoName cst_NoWord : Addr), mg "ShiftError" = some (.ref cst_ShiftError) ∧ mg "NoWeb" = some (.ref cst_NoWeb) ∧ mg "Down" = some (.ref cst_Down) ∧ mg "NoText" = some (.ref cst_NoText) ∧ mg "NoJoin" = some (.ref cst_NoJoin) ∧ mg "TooMany" = some (.ref cst_TooMany) ∧ mg "NoRow" = some (.ref cst_NoRow) ∧ mg "NoName" = some (.ref cst_NoName) ∧ mg "NoWord" = some (.ref cst_NoWord) ∧ PySem.W.excIn K cst_NoJoin [.type "ValueError", .type "Exception", .type "BaseException", .type "object"] "ValueError.__new__" = true ∧ PySem.W.excIn K cst_ShiftError [.type "ValueError", .type "Exception", .type "BaseException", .type "object"] "ValueError.__new__" = true ∧ L2.subIn K cst_NoJoin cst_ShiftError = true ∧ L2.excK K cst_NoJoin = true ∧ PySem.W.kitOne K (.ref cst_NoJoin) (.type "ValueError") = some true ∧ PySem.W.kitAny K (.ref cst_NoJoin) [.ref cst_Down, .ref cst_NoName, .ref cst_NoRow, .ref cst_NoText, .ref cst_NoWeb, .ref cst_NoWord, .ref cst_TooMany] = some false
local macro_rules | `(tactic| walk_at "WP") => `(tactic| simp only [w_gLst, w_forE, w_compE, w_compZ, w_for3, w_gTupK, w_ixT, w_eqS, w_aug, w_ipI, w_dnK, w_maxD, w_sl, w_noPart, w_part, w_slL, w_var, w_C, w_op, w_un, w_rI, w_rI0, w_rU, w_eqI, w_neI, w_eqB, w_neB, w_seq, w_next, w_break, w_cont, w_ifS, w_ret, w_retN, w_drop, w_asg, w_gName, w_gSub, w_test, w_B, w_and, w_or, w_not, w_andV, w_orV, w_notV, w_if, w_call, w_nil, w_cons, w_CB, w_lst, w_tup, w_isN, w_notN, w_chain, w_for1, w_for2b, w_On2, w_forL, w_forT, w_forV, w_compL, w_compT, w_comp1, w_comp2b, w_yes, w_bm, w_bm0, w_rBits, w_tyInt, w_gTupM, w_gCons, w_gNil, w_dgS, w_dgI, w_sDP, w_dpS, w_dpI, w_dII, w_disp, tPairs, pen_s, pen_a, pen_l, pen_len, pen_pa, pen_pl, HO.dK.injEq, w_append, List.getElem?_cons_zero, List.getElem?_cons_succ, List.set_cons_zero, List.set_cons_succ, Option.some.injEq, V.int.injEq, V.bl.injEq, V.ref.injEq, V.str.injEq, exists_eq_left', exists_eq_left, List.append_nil, List.cons.injEq, and_true, true_and, exists_and_left, decide_eq_true_eq, Bool.not_eq_true', decide_eq_false_iff_not, Bool.not_true, Bool.not_false, w_ixM, w_ixU, w_ixL, w_setL, w_cxK, w_isI_ii, w_isI_ib, w_isI_bi, w_isI_bb, w_isI_ni, w_isI_nb, w_isI_si, w_isI_sb, sl_0, sl_1, sl_2, sl_3, sl_4, sl_5, sl_6, sl_7, sl_8, CPowB, w_shl1, at_0, at_1, at_2, at_3, ixN_0, ixN_1, ixN_2, upd_same, HO.lst.injEq, HO.tup.injEq, Int.reduceToNat, Int.reducePow, Int.reduceNeg, Int.reduceLT, Int.reduceLE, Int.reduceMod, Int.reduceMul, Int.reduceAdd, Int.reduceSub, Int.reduceDiv, Int.reduceEq, ite_true, ite_false, if_true, if_false, Bool.true_eq_false, Bool.false_eq_true, List.length_cons, List.length_nil, reduceCtorEq, false_and, and_false, not_false_eq_true, not_true_eq_false, exists_false, false_or, or_false, w_pop, w_extend, w_reverse, w_clear, w_cat, w_LZ, w_LR, w_forD, w_compZ2])
section
variable {P : Program} {w : World} {K : PySem.W.Frag} {mg : Str → Option Value} {base : Heap}
theorem ok_second (T : Txt K mg) : Cal P w K mg base 1 "second_sign" ["deed"] spSnd := by
  have B := T.bl
  refine mkCal T.t_second_sign sc_second_sign (fun vs H Q E h => ?_) (fun f cdv A outer s H vs Q E hr h => ?_)
  · obtain ⟨x, d, rfl, _⟩ := h
    rfl
  obtain ⟨x, d, rfl, hx, q⟩ := h
  refine ⟨_, (pss_one (ps_ret (pe_ifExp (pt_cmpR op_eq (pe_ix ix_U (pv 0) pe_int (fun _ _ => rfl)) pe_str (nomark _)) (pe_un un_neg pe_int) pe_int))), ?_⟩
  rw [show start ["deed"] [.ref x] = [some (.ref x)] from rfl]
  unfold wTup at hx
  (iterate 5 ((try (walk_at "WP")); (try (simp only [hx, Option.some.injEq, HO.tup.injEq, HO.lst.injEq, HO.dK.injEq, exists_eq_left', exists_eq_left])))); (try (walk_at "WP"))
  unfold sgW at q
  by_cases z : d.w = Str.ofString "less"
  · rw [if_pos z] at q ⊢
    exact q
  · rw [if_neg z] at q ⊢
    exact q
end

section
variable {P : Program} {w : World} {K : PySem.W.Frag} {mg : Str → Option Value} {base : Heap}
theorem ok_mov (T : Txt K mg) : Cal P w K mg base 1 "moved" ["part", "shift", "sign"] (spMovP K) := by
  have B := T.bl
  obtain ⟨cst_NO_OUT, mg_NO_OUT, hcst⟩ := T.c_NO_OUT
  refine mkCal T.t_moved sc_moved (fun vs H Q E h => ?_) (fun f cdv A outer s H vs Q E hr h => ?_)
  · obtain ⟨v, s, g, rfl, _⟩ := h
    rfl
  obtain ⟨v, sh, g, rfl, ⟨p, a, b, c, rfl, hp, hc⟩, hg, q⟩ := h
  refine ⟨_, (pss_cons (ps_if (pt_cmpR op_eq (pe_op op_mulB (pe_ix ix_tup (pv 0) pe_int (fun _ _ => rfl)) (pv 2)) pe_int (nomark _)) (pss_one (ps_ret (pe_glob (v := .ref cst_NO_OUT) rfl mg_NO_OUT rfl))) pss_nil)
    (pss_one (ps_ret (pe_tup (pa_cons (pe_ix ix_tup (pv 0) pe_int (fun _ _ => rfl)) (pa_cons (pe_op op_add (pe_ix ix_tup (pv 0) pe_int (fun _ _ => rfl)) (pv 1)) (pa_cons (pe_op op_mulB (pe_ix ix_tup (pv 0) pe_int (fun _ _ => rfl)) (pv 2)) pa_nil))))))), ?_⟩
  rw [show start ["part", "shift", "sign"] [.ref p, .int sh, .int g] = [some (.ref p), some (.int sh), some (.int g)] from rfl]
  try walk_at "WP"
  refine ⟨_, hp, _, rfl, ?_⟩
  try walk_at "WP"
  refine ⟨by rcases hg with z | z | z <;> rw [z] <;> exact mul_r (by decide) (by decide), ?_⟩
  refine ite2 (fun z => ?_) (fun z => ?_)
  · exact q _ _ (Same.refl _) ⟨cst_NO_OUT, 0, 0, 0, rfl, hcst.sq H, .inl rfl⟩
  · refine ⟨_, hp, _, rfl, _, hp, _, rfl, ?_⟩
    try walk_at "WP"
    refine ⟨_, hp, _, rfl, ?_⟩
    try walk_at "WP"
    refine ⟨by rcases hg with z | z | z <;> rw [z] <;> exact mul_r (by decide) (by decide), fun r hr0 => ?_⟩
    refine q _ _ (same_new hr0 _) ⟨r, _, _, _, rfl, SqT.of upd_same, ?_⟩
    rcases hc with y | y | y <;> rcases hg with x | x | x <;> subst y <;> subst x <;> decide
theorem ok_movs (T : Txt K mg) : Cal P w K mg base 2 "moved_parts" ["parts", "stands"] (spMovPs K) := by
  have B := T.bl
  have C_moved := ok_mov (P := P) (w := w) (base := base) T
  refine mkCal T.t_moved_parts sc_moved_parts (fun vs H Q E h => ?_) (fun f cdv A outer s H vs Q E hr h => ?_)
  · obtain ⟨l, m, ps, ms, rfl, _⟩ := h
    rfl
  obtain ⟨l, m, ps, ms, rfl, hl, hps, hm, hms, h100, q⟩ := h
  refine ⟨_, (pss_one (ps_ret (pe_comp0 (N := ["thing", "shift", "sign", "stands"]) (nt := 3) (cs := [1]) rfl (pi_list (pv 0)) (fun nd C s H fp => ⟨(pg_tupM 3 rfl (pgs_cons (pg_name (i := 0) nd rfl (by first | exact Or.inl rfl | exact Or.inr rfl)) (pgs_cons (pg_name (i := 1) nd rfl (by first | exact Or.inl rfl | exact Or.inr rfl)) (pgs_cons (pg_name (i := 2) nd rfl (by first | exact Or.inl rfl | exact Or.inr rfl)) pgs_nil)))), pn_nil, (pe_cal C_moved hr rfl (pa_cons (pe_ix ix_M (pv 3) (pv 0) (fun _ _ => rfl)) (pa_cons (pv 1) (pa_cons (pv 2) pa_nil))))⟩) (by decide +kernel) (by first | rfl | decide +kernel) (by first | rfl | decide +kernel) rfl (fun _ => rfl)))), ?_⟩
  rw [show start ["parts", "stands"] [.ref l, .ref m] = [some (.ref l), some (.ref m)] from rfl]
  try walk_at "WP"
  refine ⟨⟨_, SqL.of hl⟩, ?_⟩
  refine comp_any ps.length (fun acc i ws H' => Same H H' ∧ H' acc = some (.lst ws) ∧ ws.length = i ∧ ∀ v ∈ ws, Prt K H' v) (le_size (by omega)) ?_ ?_ ?_ ?_ ?_ ?_
  · rintro acc i ws H' hi ⟨s', _⟩
    exact ⟨ps, ps[i], SqL.of (s' _ _ hl), List.getElem?_eq_getElem hi⟩
  · rintro acc ws H' ⟨s', _⟩
    exact ⟨ps, SqL.of (s' _ _ hl), Nat.le_refl _⟩
  · intro acc ha
    exact ⟨same_new ha _, upd_same, rfl, fun v hv => by cases hv⟩
  · rintro acc i ws H' ⟨_, ha, hw, _⟩
    exact ⟨ha, by omega⟩
  · rintro acc i ws H' ts x H2 N hn hi ⟨s', ha, hw, hv⟩ ⟨rfl, hx0⟩ hts hN
    have hx := hx0 ps (SqL.of (s' _ _ hl))
    obtain ⟨pp, a, b, c, rfl, hp, a0, a1, hc⟩ := hps x (List.mem_of_getElem? hx)
    obtain ⟨t0, t1, t2, rfl⟩ : ∃ t0 t1 t2, ts = [t0, t1, t2] := by
      match ts, hts with
      | [a, b, c], _ => exact ⟨a, b, c, rfl⟩
    have hp2 := s' _ _ hp
    have hm2 := s' _ _ hm
    rw [show capV [1] [some (V.ref l), some (V.ref m)] = [some (V.ref m)] from rfl, List.cons_append, List.cons_append, List.cons_append, List.nil_append]
    (iterate 5 ((try (walk_at "WP")); (try (simp only [hp2, hm2, Option.some.injEq, HO.tup.injEq, HO.lst.injEq, HO.dK.injEq, exists_eq_left', exists_eq_left])))); (try (walk_at "WP"))
    obtain ⟨ka, rfl⟩ := Int.eq_ofNat_of_zero_le a0
    have hka : ka < ms.length := by omega
    refine ⟨_, atI_nat (List.getElem?_eq_getElem hka), ?_⟩
    refine ⟨_, b, c, rfl, (hms _ (List.getElem_mem hka)).same s', hc, fun r H5 s5 hr5 => ?_⟩
    have ha5 := s5 _ _ ha
    refine ⟨ha5, hN _ [_, _, _] _ rfl ⟨same_upd hn (s'.trans s5), upd_same, by simp [hw], fun v hv' => ?_⟩⟩
    rcases List.mem_append.mp hv' with z | z
    · exact ((hv v z).same s5).chg ha5 (Chg.upd _)
    · rw [List.mem_singleton.mp z]
      exact hr5.chg ha5 (Chg.upd _)
  · rintro acc ws H' hn ⟨s', ha, hw, hv⟩
    exact q acc ws H' hn s' ha hw hv
theorem ok_partsof (T : Txt K mg) : Cal P w K mg base 2 "parts_of" ["deed"] spPartsOf := by
  have B := T.bl
  have C_second_sign := ok_second (P := P) (w := w) (base := base) T
  refine mkCal T.t_parts_of sc_parts_of (fun vs H Q E h => ?_) (fun f cdv A outer s H vs Q E hr h => ?_)
  · obtain ⟨x, d, n, rfl, _⟩ := h
    rfl
  obtain ⟨x, d, n, rfl, hx, ha, hb, q⟩ := h
  refine ⟨_, (pss_one (ps_ret (pe_lst (pa_cons (pe_tup (pa_cons (pe_ix ix_U (pv 0) pe_int (fun _ _ => rfl)) (pa_cons (pe_ix ix_U (pv 0) pe_int (fun _ _ => rfl)) (pa_cons pe_int pa_nil)))) (pa_cons (pe_tup (pa_cons (pe_ix ix_U (pv 0) pe_int (fun _ _ => rfl)) (pa_cons (pe_ix ix_U (pv 0) pe_int (fun _ _ => rfl)) (pa_cons (pe_cal C_second_sign hr rfl (pa_cons (pv 0) pa_nil)) pa_nil)))) pa_nil))))), ?_⟩
  rw [show start ["deed"] [.ref x] = [some (.ref x)] from rfl]
  have hx' := hx
  unfold wTup at hx'
  (iterate 5 ((try (walk_at "WP")); (try (simp only [hx', Option.some.injEq, HO.tup.injEq, HO.lst.injEq, HO.dK.injEq, exists_eq_left', exists_eq_left])))); (try (walk_at "WP"))
  intro t1 ht1
  have s1 := same_new ht1 (.tup [V.int (d.a : Int), V.int d.s, V.int 1])
  have e1 : upd H t1 (.tup [V.int (d.a : Int), V.int d.s, V.int 1]) t1 = some (.tup [V.int (d.a : Int), V.int d.s, V.int 1]) := upd_same
  generalize upd H t1 (.tup [V.int (d.a : Int), V.int d.s, V.int 1]) = H1 at s1 e1 ⊢
  have hx1 := s1 _ _ hx'
  (iterate 5 ((try (walk_at "WP")); (try (simp only [hx1, Option.some.injEq, HO.tup.injEq, HO.lst.injEq, HO.dK.injEq, exists_eq_left', exists_eq_left])))); (try (walk_at "WP"))
  refine ⟨_, rfl, x, d, rfl, s1 _ _ hx, ?_⟩
  try walk_at "WP"
  intro t2 ht2
  have s2 := same_new ht2 (.tup [V.int (d.b : Int), V.int d.t, V.int (sgW d.w)])
  have e2 : upd H1 t2 (.tup [V.int (d.b : Int), V.int d.t, V.int (sgW d.w)]) t2 = some (.tup [V.int (d.b : Int), V.int d.t, V.int (sgW d.w)]) := upd_same
  have e1 := s2 _ _ e1
  generalize upd H1 t2 (.tup [V.int (d.b : Int), V.int d.t, V.int (sgW d.w)]) = H2 at s2 e1 e2 ⊢
  intro r hr0
  have s3 := same_new hr0 (.lst [V.ref t1, V.ref t2])
  have hsg : sgW d.w = 0 ∨ sgW d.w = 1 ∨ sgW d.w = -1 := by
    unfold sgW
    split
    · exact .inr (.inr rfl)
    · exact .inr (.inl rfl)
  exact q r _ _ _ ((s1.trans s2).free hr0) ((s1.trans s2).trans s3) upd_same ⟨t1, _, _, _, rfl, s3 _ _ e1, by omega, by omega, .inr (.inl rfl)⟩ ⟨t2, _, _, _, rfl, s3 _ _ e2, by omega, by omega, hsg⟩
theorem ok_deedofP (T : Txt K mg) : Cal P w K mg base 1 "deed_of" ["one", "other"] (spDeedOfP K) := by
  have B := T.bl
  refine mkCal T.t_deed_of sc_deed_of (fun vs H Q E h => ?_) (fun f cdv A outer s H vs Q E hr h => ?_)
  · obtain ⟨u, v, rfl, _⟩ := h
    rfl
  obtain ⟨u, v, rfl, ⟨p1, a1, b1, c1, rfl, h1, hc1⟩, ⟨p2, a2, b2, c2, rfl, h2, hc2⟩, q⟩ := h
  refine ⟨_, (pss_cons (ps_if (pt_cmpR op_eq (pe_ix ix_tup (pv 0) pe_int (fun _ _ => rfl)) (pe_ix ix_tup (pv 1) pe_int (fun _ _ => rfl)) (nomark _)) (pss_one (ps_ret (pe_tup (pa_cons pe_str (pa_cons (pe_ix ix_tup (pv 0) pe_int (fun _ _ => rfl)) (pa_cons (pe_ix ix_tup (pv 0) pe_int (fun _ _ => rfl)) (pa_cons (pe_ix ix_tup (pv 1) pe_int (fun _ _ => rfl)) (pa_cons (pe_ix ix_tup (pv 1) pe_int (fun _ _ => rfl)) pa_nil)))))))) pss_nil)
    (pss_cons (ps_if (pt_cmpR op_eq (pe_ix ix_tup (pv 0) pe_int (fun _ _ => rfl)) pe_int (nomark _)) (pss_one (ps_ret (pe_tup (pa_cons pe_str (pa_cons (pe_ix ix_tup (pv 0) pe_int (fun _ _ => rfl)) (pa_cons (pe_ix ix_tup (pv 0) pe_int (fun _ _ => rfl)) (pa_cons (pe_ix ix_tup (pv 1) pe_int (fun _ _ => rfl)) (pa_cons (pe_ix ix_tup (pv 1) pe_int (fun _ _ => rfl)) pa_nil)))))))) pss_nil)
    (pss_one (ps_ret (pe_tup (pa_cons pe_str (pa_cons (pe_ix ix_tup (pv 1) pe_int (fun _ _ => rfl)) (pa_cons (pe_ix ix_tup (pv 1) pe_int (fun _ _ => rfl)) (pa_cons (pe_ix ix_tup (pv 0) pe_int (fun _ _ => rfl)) (pa_cons (pe_ix ix_tup (pv 0) pe_int (fun _ _ => rfl)) pa_nil)))))))))), ?_⟩
  rw [show start ["one", "other"] [.ref p1, .ref p2] = [some (.ref p1), some (.ref p2)] from rfl]
  try walk_at "WP"
  refine ⟨_, h1, _, rfl, _, h2, _, rfl, ?_⟩
  try walk_at "WP"
  refine ite2 (fun z => ?_) (fun z => ?_)
  · exact ⟨_, h1, _, rfl, _, h1, _, rfl, _, h2, _, rfl, _, h2, _, rfl, fun r hr0 => q r _ _ hr0 (same_new hr0 _) upd_same⟩
  · refine ⟨_, h1, _, rfl, ?_⟩
    try walk_at "WP"
    refine ite2 (fun z => ?_) (fun z => ?_)
    · exact ⟨_, h1, _, rfl, _, h1, _, rfl, _, h2, _, rfl, _, h2, _, rfl, fun r hr0 => q r _ _ hr0 (same_new hr0 _) upd_same⟩
    · exact ⟨_, h2, _, rfl, _, h2, _, rfl, _, h1, _, rfl, _, h1, _, rfl, fun r hr0 => q r _ _ hr0 (same_new hr0 _) upd_same⟩
theorem ok_signofP (T : Txt K mg) : Cal P w K mg base 1 "sign_of" ["one", "other"] (spSignOfP K) := by
  have B := T.bl
  refine mkCal T.t_sign_of sc_sign_of (fun vs H Q E h => ?_) (fun f cdv A outer s H vs Q E hr h => ?_)
  · obtain ⟨u, v, rfl, _⟩ := h
    rfl
  obtain ⟨u, v, rfl, ⟨p1, a1, b1, c1, rfl, h1, hc1⟩, ⟨p2, a2, b2, c2, rfl, h2, hc2⟩, q⟩ := h
  refine ⟨_, (pss_one (ps_ret (pe_ifExp (pt_cmpR op_eq (pe_ix ix_tup (pv 0) pe_int (fun _ _ => rfl)) (pe_ix ix_tup (pv 1) pe_int (fun _ _ => rfl)) (nomark _)) (pe_ix ix_tup (pv 0) pe_int (fun _ _ => rfl)) pe_int))), ?_⟩
  rw [show start ["one", "other"] [.ref p1, .ref p2] = [some (.ref p1), some (.ref p2)] from rfl]
  try walk_at "WP"
  refine ⟨_, h1, _, rfl, _, h2, _, rfl, ?_⟩
  try walk_at "WP"
  refine ite2 (fun z => ?_) (fun z => ?_)
  · exact ⟨_, h1, _, rfl, q _ hc1⟩
  · exact q _ (.inr (.inl rfl))
theorem ok_addsum (T : Txt K mg) : Cal P w K mg base 2 "add_sum" ["ins", "deeds", "one", "other"] (spAddSum K) := by
  have B := T.bl
  have C_deed_of := ok_deedofP (P := P) (w := w) (base := base) T
  have C_sign_of := ok_signofP (P := P) (w := w) (base := base) T
  refine mkCal T.t_add_sum sc_add_sum (fun vs H Q E h => ?_) (fun f cdv A outer s H vs Q E hr h => ?_)
  · obtain ⟨i, l, u, v, xs, rfl, _⟩ := h
    rfl
  obtain ⟨i, l, u, v, xs, rfl, hl, hlen, hu, hv, q⟩ := h
  obtain ⟨p1, a1, b1, c1, rfl, h1, hc1⟩ := id hu
  obtain ⟨p2, a2, b2, c2, rfl, h2, hc2⟩ := id hv
  refine ⟨_, (pss_cons (ps_if (pt_cmpR op_eq (pe_ix ix_tup (pv 2) pe_int (fun _ _ => rfl)) pe_int (nomark _)) (pss_one (ps_ret (pv 3))) pss_nil)
    (pss_cons (ps_if (pt_cmpR op_eq (pe_ix ix_tup (pv 3) pe_int (fun _ _ => rfl)) pe_int (nomark _)) (pss_one (ps_ret (pv 2))) pss_nil)
    (pss_cons (ps_expr (pe_bm PySem.F.plainAttrs_list PySem.F.slot_list_append PySem.F.type_list_append mt_append (pv 1) (pa_cons (pe_cal C_deed_of hr rfl (pa_cons (pv 2) (pa_cons (pv 3) pa_nil))) pa_nil)))
    (pss_one (ps_ret (pe_tup (pa_cons (pe_op op_sub (pe_op op_add (pv 0) (pe_callB call_lenM rfl B.len bo_len (pa_cons (pv 1) pa_nil))) pe_int) (pa_cons pe_int (pa_cons (pe_cal C_sign_of hr rfl (pa_cons (pv 2) (pa_cons (pv 3) pa_nil))) pa_nil))))))))), ?_⟩
  rw [show start ["ins", "deeds", "one", "other"] [.int i, .ref l, .ref p1, .ref p2] = [some (.int i), some (.ref l), some (.ref p1), some (.ref p2)] from rfl]
  try walk_at "WP"
  refine ⟨_, h1, _, rfl, ?_⟩
  try walk_at "WP"
  refine ite2 (fun z => ?_) (fun z => ?_)
  · exact q _ _ _ (fun _ _ _ y => y) hl (by omega) hv
  refine ⟨_, h2, _, rfl, ?_⟩
  try walk_at "WP"
  refine ite2 (fun z => ?_) (fun z => ?_)
  · exact q _ _ _ (fun _ _ _ y => y) hl (by omega) hu
  refine ⟨ty_list hl, ?_⟩
  refine ⟨_, _, rfl, hu, hv, fun r xs' H1 nr s1 hr1 => ?_⟩
  have hl1 := s1 _ _ hl
  (iterate 5 ((try (walk_at "WP")); (try (simp only [hl1, Option.some.injEq, HO.tup.injEq, HO.lst.injEq, HO.dK.injEq, exists_eq_left', exists_eq_left])))); (try (walk_at "WP"))
  refine ⟨lt_big (by omega), ?_⟩
  have C2 : Chg l H1 (upd H1 l (.lst (xs ++ [.ref r]))) := Chg.upd _
  have hl2 : upd H1 l (.lst (xs ++ [.ref r])) l = some (.lst (xs ++ [.ref r])) := upd_same
  have hu2 := (hu.same s1).chg hl1 C2
  have hv2 := (hv.same s1).chg hl1 C2
  generalize upd H1 l (.lst (xs ++ [.ref r])) = H2 at C2 hl2 hu2 hv2 ⊢
  (iterate 5 ((try (walk_at "WP")); (try (simp only [hl2, Option.some.injEq, HO.tup.injEq, HO.lst.injEq, HO.dK.injEq, exists_eq_left', exists_eq_left])))); (try (walk_at "WP"))
  refine ⟨_, _, rfl, hu2, hv2, fun g hg => ?_⟩
  try walk_at "WP"
  intro t ht
  have st := same_new ht (.tup [V.int (i + ((xs ++ [V.ref r]).length : Nat) - 1), V.int 0, V.int g])
  refine q _ _ _ ((s1.chg.trans C2).trans st.chg) (st _ _ hl2) (by simp) ⟨t, _, _, _, rfl, SqT.of upd_same, hg⟩
theorem ok_dthings (T : Txt K mg) : Cal P w K mg base 1 "deed_things" ["start", "web"] spDThings := by
  have B := T.bl
  refine mkCal T.t_deed_things sc_deed_things (fun vs H Q E h => ?_) (fun f cdv A outer s H vs Q E hr h => ?_)
  · obtain ⟨st, x, _, _, _, _, rfl, _⟩ := h
    rfl
  obtain ⟨st, x, dl, gl, i, us, rfl, hx, hd, hu, s0, s1, q⟩ := h
  refine ⟨_, (pss_one (ps_ret (pe_listrange2 rfl rfl B.list rfl B.range (pa_cons (pv 0) (pa_cons (pe_op op_add (pv 0) (pe_callB call_lenM rfl B.len bo_len (pa_cons (pe_ix ix_U (pv 1) pe_int (fun _ _ => rfl)) pa_nil))) pa_nil))))), ?_⟩
  rw [show start ["start", "web"] [.int st, .ref x] = [some (.int st), some (.ref x)] from rfl]
  try walk_at "WP"
  rw [w_LR2]
  (iterate 5 ((try (walk_at "WP")); (try (simp only [hx, hd, Option.some.injEq, HO.tup.injEq, HO.lst.injEq, HO.dK.injEq, exists_eq_left', exists_eq_left])))); (try (walk_at "WP"))
  exact ⟨st, us.length, ⟨rfl, rfl⟩, by omega, by omega, by omega, fun l H' a b c => q l H' a b c⟩
end

section
variable {P : Program} {w : World} {K : PySem.W.Frag} {mg : Str → Option Value} {base : Heap}
def spCntJ : Sp := fun vs H Q _ => ∃ (x dl gl : Addr) (i : Int) (us : List V), vs = [.ref x] ∧ H x = some (.tup [.int i, .ref dl, .ref gl]) ∧ H dl = some (.lst us) ∧ Q (.int (i + (us.length : Int))) H
theorem ok_cntJ (T : Txt K mg) : Cal P w K mg base 1 "thing_count" ["web"] spCntJ := by
  have B := T.bl
  refine mkCal T.t_thing_count sc_thing_count (fun vs H Q E h => ?_) (fun f cdv A outer s H vs Q E hr h => ?_)
  · obtain ⟨x, _, _, _, _, rfl, _⟩ := h
    rfl
  obtain ⟨x, dl, gl, i, us, rfl, h1, h2, q⟩ := h
  refine ⟨_, (pss_one (ps_ret (pe_op op_add (pe_ix ix_U (pv 0) pe_int (fun _ _ => rfl)) (pe_callB call_lenM rfl B.len bo_len (pa_cons (pe_ix ix_U (pv 0) pe_int (fun _ _ => rfl)) pa_nil))))), ?_⟩
  rw [show start ["web"] [.ref x] = [some (.ref x)] from rfl]
  (iterate 5 ((try (walk_at "WP")); (try (simp only [h1, h2, Option.some.injEq, HO.tup.injEq, HO.lst.injEq, HO.dK.injEq, exists_eq_left', exists_eq_left])))); (try (walk_at "WP"))
  exact q
theorem ok_renum (T : Txt K mg) : Cal P w K mg base 3 "renumbered" ["web", "things"] (spRenum K) := by
  have B := T.bl
  have C_moved_parts := ok_movs (P := P) (w := w) (base := base) T
  refine mkCal T.t_renumbered sc_renumbered (fun vs H Q E h => ?_) (fun f cdv A outer s H vs Q E hr h => ?_)
  · obtain ⟨x, _, _, t, _, _, _, _, _, rfl, _⟩ := h
    rfl
  obtain ⟨x, dl, gl, t, ins, us, ds, os, ns, rfl, W, ht, nl, q⟩ := h
  refine ⟨_, (pss_cons (ps_setComp0 (ix := 2) (N := ["word", "a", "s", "b", "t", "things"]) (nt := 5) (cs := [1]) rfl (pi_list (pe_ix ix_U (pv 0) pe_int (fun _ _ => rfl))) (fun nd C s H fp => ⟨(pg_tupM 5 rfl (pgs_cons (pg_name (i := 0) nd rfl (by first | exact Or.inl rfl | exact Or.inr rfl)) (pgs_cons (pg_name (i := 1) nd rfl (by first | exact Or.inl rfl | exact Or.inr rfl)) (pgs_cons (pg_name (i := 2) nd rfl (by first | exact Or.inl rfl | exact Or.inr rfl)) (pgs_cons (pg_name (i := 3) nd rfl (by first | exact Or.inl rfl | exact Or.inr rfl)) (pgs_cons (pg_name (i := 4) nd rfl (by first | exact Or.inl rfl | exact Or.inr rfl)) pgs_nil)))))), pn_nil, (pe_tup (pa_cons (pv 0) (pa_cons (pe_ix ix_M (pv 5) (pv 1) (fun _ _ => rfl)) (pa_cons (pv 2) (pa_cons (pe_ix ix_M (pv 5) (pv 3) (fun _ _ => rfl)) (pa_cons (pv 4) pa_nil))))))⟩) (by decide +kernel) (by first | rfl | decide +kernel) (by first | rfl | decide +kernel) rfl (fun _ => rfl) sc_renumbered.nd rfl (by first | exact Or.inl rfl | exact Or.inr rfl) (by first | exact .inl rfl | exact .inr rfl) rfl)
    (pss_cons (ps_setComp0 (ix := 3) (N := ["thing"]) (nt := 1) (cs := []) rfl (pi_list (pv 1)) (fun nd C s H fp => ⟨(pg_name (i := 0) nd rfl (by first | exact Or.inl rfl | exact Or.inr rfl)), pn_nil, (pe_tup (pa_cons (pv 0) (pa_cons pe_int (pa_cons pe_int pa_nil))))⟩) (by decide +kernel) (by first | rfl | decide +kernel) (by first | rfl | decide +kernel) rfl (fun _ => rfl) sc_renumbered.nd rfl (by first | exact Or.inl rfl | exact Or.inr rfl) (by first | exact .inl rfl | exact .inr rfl) rfl)
    (pss_one (ps_ret (pe_tup (pa_cons (pe_ix ix_U (pv 0) pe_int (fun _ _ => rfl)) (pa_cons (pv 2) (pa_cons (pe_cal C_moved_parts hr rfl (pa_cons (pe_ix ix_U (pv 0) pe_int (fun _ _ => rfl)) (pa_cons (pv 3) pa_nil))) pa_nil)))))))), ?_⟩
  rw [show start ["web", "things", "deeds", "stands"] [.ref x, .ref t] = [some (.ref x), some (.ref t), none, none] from rfl]
  have h1 := W.tup
  have d6 := W.dl6
  have i12 := W.i12
  have o12 := W.ol
  have ul : us.length = ds.length := W.hds.len
  (iterate 5 ((try (walk_at "WP")); (try (simp only [h1, Option.some.injEq, HO.tup.injEq, HO.lst.injEq, HO.dK.injEq, exists_eq_left', exists_eq_left])))); (try (walk_at "WP"))
  refine ⟨⟨_, SqL.of W.dll⟩, ?_⟩
  refine comp_any us.length (fun acc i ws H' => Same H H' ∧ H' acc = some (.lst ws) ∧ ws.length = i) (le_size (by omega)) ?_ ?_ ?_ ?_ ?_ ?_
  · rintro acc i ws H' hi ⟨s', _⟩
    exact ⟨us, us[i], SqL.of (s' _ _ W.dll), List.getElem?_eq_getElem hi⟩
  · rintro acc ws H' ⟨s', _⟩
    exact ⟨us, SqL.of (s' _ _ W.dll), Nat.le_refl _⟩
  · intro acc ha
    exact ⟨same_new ha _, upd_same, rfl⟩
  · rintro acc i ws H' ⟨_, ha, hw⟩
    exact ⟨ha, by omega⟩
  · rintro acc i ws H' ts y H2 N hn hi ⟨s', ha, hw⟩ ⟨rfl, hx0⟩ hts hN
    have hx := hx0 us (SqL.of (s' _ _ W.dll))
    have hdi : ds[i]? = some (ds[i]'(by omega)) := List.getElem?_eq_getElem _
    generalize ds[i]'(by omega) = d at hdi
    obtain ⟨yp, hy1, hy2⟩ := W.hds.at_ i d hdi
    rw [hx] at hy1
    cases hy1
    obtain ⟨da, db, _⟩ := W.dk i d hdi
    obtain ⟨t0, t1, t2, t3, t4, rfl⟩ : ∃ t0 t1 t2 t3 t4, ts = [t0, t1, t2, t3, t4] := by
      match ts, hts with
      | [a, b, c, d, e], _ => exact ⟨a, b, c, d, e, rfl⟩
    have hy3 := s' _ _ hy2
    unfold wTup at hy3
    have ht2 := s' _ _ ht
    have na : d.a < ns.length := by omega
    have nb : d.b < ns.length := by omega
    rw [show capV [1] [some (V.ref x), some (V.ref t), none, none] = [some (V.ref t)] from rfl, List.cons_append, List.cons_append, List.cons_append, List.cons_append, List.cons_append, List.nil_append]
    (iterate 5 ((try (walk_at "WP")); (try (simp only [hy3, ht2, Option.some.injEq, HO.tup.injEq, HO.lst.injEq, HO.dK.injEq, exists_eq_left', exists_eq_left])))); (try (walk_at "WP"))
    refine ⟨_, atI_nat (by rw [List.getElem?_map, List.getElem?_eq_getElem na]; rfl), _, atI_nat (by rw [List.getElem?_map, List.getElem?_eq_getElem nb]; rfl), fun r hr0 => ?_⟩
    have s5 := same_new hr0 (.tup [V.str d.w, V.int ns[d.a], V.int d.s, V.int ns[d.b], V.int d.t])
    exact ⟨s5 _ _ ha, hN _ [_, _, _, _, _] _ rfl ⟨same_upd hn (s'.trans s5), upd_same, by simp [hw]⟩⟩
  rintro d2 xs H1 nd2 ⟨s1, hd2, xl⟩
  have ht1 := s1 _ _ ht
  try walk_at "WP"
  refine ⟨⟨_, SqL.of ht1⟩, ?_⟩
  refine comp_any (ns.map V.int).length (fun acc i ws H' => Same H1 H' ∧ H' acc = some (.lst ws) ∧ ws.length = i ∧ ∀ v ∈ ws, Prt K H' v) (le_size (by rw [List.length_map]; omega)) ?_ ?_ ?_ ?_ ?_ ?_
  · rintro acc i ws H' hi ⟨s', _⟩
    exact ⟨_, _, SqL.of (s' _ _ ht1), List.getElem?_eq_getElem hi⟩
  · rintro acc ws H' ⟨s', _⟩
    exact ⟨_, SqL.of (s' _ _ ht1), Nat.le_refl _⟩
  · intro acc ha
    exact ⟨same_new ha _, upd_same, rfl, fun v hv => by cases hv⟩
  · rintro acc i ws H' ⟨_, ha, hw, _⟩
    exact ⟨ha, by omega⟩
  · rintro acc i ws H' ts y H2 N hn hi ⟨s', ha, hw, hv⟩ ⟨rfl, hx0⟩ hts hN
    obtain ⟨n, hn2, rfl⟩ := map_at (hx0 _ (SqL.of (s' _ _ ht1)))
    obtain ⟨t0, rfl⟩ : ∃ t0, ts = [t0] := by
      match ts, hts with
      | [a], _ => exact ⟨a, rfl⟩
    rw [show capV [] [some (V.ref x), some (V.ref t), some (V.ref d2), none] = [] from rfl]
    try walk_at "WP"
    intro r hr0
    have s5 := same_new hr0 (.tup [V.int n, V.int 0, V.int 1])
    have ha5 := s5 _ _ ha
    refine ⟨ha5, hN _ [_] _ rfl ⟨same_upd hn (s'.trans s5), upd_same, by simp [hw], fun v hv' => ?_⟩⟩
    rcases List.mem_append.mp hv' with z | z
    · exact ((hv v z).same s5).chg ha5 (Chg.upd _)
    · rw [List.mem_singleton.mp z]
      have : Prt K (upd H2 r (.tup [V.int n, V.int 0, V.int 1])) (.ref r) := ⟨r, n, 0, 1, rfl, SqT.of upd_same, .inr (.inl rfl)⟩
      exact this.chg ha5 (Chg.upd _)
  rintro st ss H2 nst ⟨s2', hst, sl, hss⟩
  rw [List.length_map] at sl
  have s2 := s1.trans s2'
  have h2 := s2 _ _ h1
  (iterate 5 ((try (walk_at "WP")); (try (simp only [h2, Option.some.injEq, HO.tup.injEq, HO.lst.injEq, HO.dK.injEq, exists_eq_left', exists_eq_left])))); (try (walk_at "WP"))
  refine ⟨gl, st, os, ss, rfl, s2 _ _ W.gll, fun v hv => by rw [sl, nl]; exact (W.go v hv).same s2, hst, hss, by omega, fun g2 ys H3 ng s3' hg2 yl hys => ?_⟩
  have s3 := s2.trans s3'
  try walk_at "WP"
  intro r hr0
  have s4 := same_new hr0 (.tup [V.int (ins : Int), V.ref d2, V.ref g2])
  exact q r d2 g2 xs ys _ (s3.free hr0) (s3.trans s4) upd_same (s4 _ _ (s3' _ _ (s2' _ _ hd2))) (by omega) (s4 _ _ hg2) yl
theorem okx_put (T : Txt K mg) {cst_NoJoin : Addr} (mg_NoJoin : mg "NoJoin" = some (.ref cst_NoJoin)) (xi_NoJoin : PySem.W.excIn K cst_NoJoin [.type "ValueError", .type "Exception", .type "BaseException", .type "object"] "ValueError.__new__" = true) : CalX P w K mg base 1 "put_together" ["ins", "one", "other"] (spPutT cst_NoJoin) := by
  have B := T.bl
  obtain ⟨tk_O, mg_MOST_OUTS⟩ := T.i_MOST_OUTS
  refine mkCalX T.t_put_together sc_put_together (fun vs H Q E h => ?_) (fun f cdv A outer s H vs Q E hr h => ?_)
  · obtain ⟨_, _, _, _, _, _, _, _, _, _, _, _, _, rfl, _⟩ := h
    rfl
  obtain ⟨ins, a, b, d1, g1, d2, g2, i, j, x1, y1, x2, y2, rfl, ha, hb, hd1, hg1, hd2, hg2, l1, l2, l3, l4, qE, qQ⟩ := h
  refine ⟨_, (pss_cons (PS.nox (ps_set (i := 3) sc_put_together.nd rfl (by first | exact Or.inl rfl | exact Or.inr rfl) (pe_op op_cat (pe_ix ix_U (pv 1) pe_int (fun _ _ => rfl)) (pe_ix ix_U (pv 2) pe_int (fun _ _ => rfl)))))
    (pss_cons (ps_if (pt_cmpR op_gt (pe_callB call_lenM rfl B.len bo_len (pa_cons (pv 3) pa_nil)) (pe_glob (v := .int 12) rfl mg_MOST_OUTS ⟨_, rfl⟩) (nomark _)) (pss_one (ps_raise (C := cst_NoJoin) raises_of xi_NoJoin PySem.F.excBase_ValueError rfl (fun _ z => nomatch z) rfl mg_NoJoin (pa_cons pe_str pa_nil))) pss_nil)
    (pss_one (PS.nox (ps_ret (pe_tup (pa_cons (pv 0) (pa_cons (pe_op op_cat (pe_ix ix_U (pv 1) pe_int (fun _ _ => rfl)) (pe_ix ix_U (pv 2) pe_int (fun _ _ => rfl))) (pa_cons (pv 3) pa_nil))))))))), ?_⟩
  rw [show start ["ins", "one", "other", "outs"] [.int ins, .ref a, .ref b] = [some (.int ins), some (.ref a), some (.ref b), none] from rfl]
  (iterate 5 ((try (walk_at "WP")); (try (simp only [ha, hb, Option.some.injEq, HO.tup.injEq, HO.lst.injEq, HO.dK.injEq, exists_eq_left', exists_eq_left])))); (try (walk_at "WP"))
  refine ⟨_, hg1, _, hg2, by exact le_big (by omega), fun r hr0 => ?_⟩
  have s1 := same_new hr0 (.lst (y1 ++ y2))
  have e1 : upd H r (.lst (y1 ++ y2)) r = some (.lst (y1 ++ y2)) := upd_same
  generalize upd H r (.lst (y1 ++ y2)) = H1 at s1 e1 ⊢
  have ha1 := s1 _ _ ha
  have hb1 := s1 _ _ hb
  (iterate 5 ((try (walk_at "WP")); (try (simp only [e1, Option.some.injEq, HO.tup.injEq, HO.lst.injEq, HO.dK.injEq, exists_eq_left', exists_eq_left])))); (try (walk_at "WP"))
  refine ite2 (fun z => ?_) (fun z => ?_)
  · rw [w_raise]
    try walk_at "WP"
    exact qE (by rw [List.length_append] at z; omega) _ s1
  · (iterate 5 ((try (walk_at "WP")); (try (simp only [ha1, hb1, Option.some.injEq, HO.tup.injEq, HO.lst.injEq, HO.dK.injEq, exists_eq_left', exists_eq_left])))); (try (walk_at "WP"))
    refine ⟨_, s1 _ _ hd1, _, s1 _ _ hd2, by exact le_big (by omega), fun r2 hr2 => ?_⟩
    intro r3 hr3
    exact qQ (by rw [List.length_append] at z; omega) _ _ ((s1.trans (same_new hr2 _)).trans (same_new hr3 _))
end

section
variable {P : Program} {w : World} {K : PySem.W.Frag} {mg : Str → Option Value} {base : Heap}
theorem okx_beside (T : Txt K mg) {cst_NoJoin : Addr} (mg_NoJoin : mg "NoJoin" = some (.ref cst_NoJoin)) (xi_NoJoin : PySem.W.excIn K cst_NoJoin [.type "ValueError", .type "Exception", .type "BaseException", .type "object"] "ValueError.__new__" = true) : CalX P w K mg base 4 "beside" ["one", "other"] (spJoin "beside" cst_NoJoin) := by
  have B := T.bl
  obtain ⟨tk_I, mg_MOST_INS⟩ := T.i_MOST_INS
  have C_deed_things := (ok_dthings (P := P) (w := w) (base := base) T).mono (k := 3) (by decide)
  have C_renumbered := ok_renum (P := P) (w := w) (base := base) T
  have X_put_together := (okx_put (P := P) (w := w) (base := base) T mg_NoJoin xi_NoJoin).mono (k := 3) (by decide)
  refine mkCalX T.t_beside sc_beside (fun vs H Q E h => ?_) (fun f cdv A outer s H vs Q E hr h => ?_)
  · obtain ⟨_, _, _, _, _, _, _, _, _, _, _, _, _, _, rfl, _⟩ := h
    rfl
  obtain ⟨a, b, d1, g1, d2, g2, i1, i2, u1, u2, s1, s2, o1, o2, rfl, W1, W2, qE, qQ⟩ := h
  unfold refJ at qE qQ
  rw [if_neg (by decide), if_pos rfl] at qE qQ
  refine ⟨_, (pss_cons (PS.nox (ps_set (i := 2) sc_beside.nd rfl (by first | exact Or.inl rfl | exact Or.inr rfl) (pe_op op_add (pe_ix ix_U (pv 0) pe_int (fun _ _ => rfl)) (pe_ix ix_U (pv 1) pe_int (fun _ _ => rfl)))))
    (pss_cons (ps_if (pt_cmpR op_gt (pv 2) (pe_glob (v := .int 12) rfl mg_MOST_INS ⟨_, rfl⟩) (nomark _)) (pss_one (ps_raise (C := cst_NoJoin) raises_of xi_NoJoin PySem.F.excBase_ValueError rfl (fun _ z => nomatch z) rfl mg_NoJoin (pa_cons pe_str pa_nil))) pss_nil)
    (pss_cons (PS.nox (ps_set (i := 3) sc_beside.nd rfl (by first | exact Or.inl rfl | exact Or.inr rfl) (pe_op op_cat (pe_listrange rfl rfl B.list rfl B.range (pa_cons (pe_ix ix_U (pv 0) pe_int (fun _ _ => rfl)) pa_nil)) (pe_cal C_deed_things hr rfl (pa_cons (pv 2) (pa_cons (pv 0) pa_nil))))))
    (pss_cons (PS.nox (ps_set (i := 4) sc_beside.nd rfl (by first | exact Or.inl rfl | exact Or.inr rfl) (pe_op op_cat (pe_listrange2 rfl rfl B.list rfl B.range (pa_cons (pe_ix ix_U (pv 0) pe_int (fun _ _ => rfl)) (pa_cons (pv 2) pa_nil))) (pe_cal C_deed_things hr rfl (pa_cons (pe_op op_add (pv 2) (pe_callB call_lenM rfl B.len bo_len (pa_cons (pe_ix ix_U (pv 0) pe_int (fun _ _ => rfl)) pa_nil))) (pa_cons (pv 1) pa_nil))))))
    (pss_one (ps_ret (pe_calX E X_put_together passes_of hr rfl (pa_cons (pv 2) (pa_cons (pe_cal C_renumbered hr rfl (pa_cons (pv 0) (pa_cons (pv 3) pa_nil))) (pa_cons (pe_cal C_renumbered hr rfl (pa_cons (pv 1) (pa_cons (pv 4) pa_nil))) pa_nil)))))))))), ?_⟩
  rw [show start ["one", "other", "ins", "ones", "others"] [.ref a, .ref b] = [some (.ref a), some (.ref b), none, none, none] from rfl]
  have t1 := W1.tup
  have t2 := W2.tup
  have e1 := W1.dl6
  have e2 := W2.dl6
  have l1 := W1.hds.len
  have l2 := W2.hds.len
  have i112 := W1.i12
  have i212 := W2.i12
  (iterate 5 ((try (walk_at "WP")); (try (simp only [t1, t2, Option.some.injEq, HO.tup.injEq, HO.lst.injEq, HO.dK.injEq, exists_eq_left', exists_eq_left])))); (try (walk_at "WP"))
  refine ite2 (fun z => ?_) (fun z => ?_)
  · rw [w_raise]
    try walk_at "WP"
    exact qE (.inl (by omega)) _ (Same.refl _)
  (iterate 5 ((try (walk_at "WP")); (try (simp only [t1, t2, Option.some.injEq, HO.tup.injEq, HO.lst.injEq, HO.dK.injEq, exists_eq_left', exists_eq_left])))); (try (walk_at "WP"))
  refine ⟨i1, rfl, by omega, fun la H1 na sa ha => ?_⟩
  refine ⟨_, a, d1, g1, i1, u1, rfl, sa _ _ t1, sa _ _ W1.dll, by omega, by omega, by omega, fun lb H2 nb sb hb => ?_⟩
  have ha2 := sb _ _ ha
  (iterate 5 ((try (walk_at "WP")); (try (simp only [ha2, hb, Option.some.injEq, HO.tup.injEq, HO.lst.injEq, HO.dK.injEq, exists_eq_left', exists_eq_left])))); (try (walk_at "WP"))
  refine ⟨by rw [rngV_len, rngV_len]; exact le_big (by omega), fun lc nc => ?_⟩
  rw [rng_two, l1]
  have sc := same_new nc (.lst ((rngI 0 i1 ++ rngI ((i1 : Int) + i2) s1.length).map V.int))
  have hc : upd H2 lc (.lst ((rngI 0 i1 ++ rngI ((i1 : Int) + i2) s1.length).map V.int)) lc = some (.lst ((rngI 0 i1 ++ rngI ((i1 : Int) + i2) s1.length).map V.int)) := upd_same
  have S3 := (sa.trans sb).trans sc
  generalize upd H2 lc (.lst ((rngI 0 i1 ++ rngI ((i1 : Int) + i2) s1.length).map V.int)) = H3 at hc S3 ⊢
  have t13 := S3 _ _ t1
  rw [w_LR2]
  (iterate 5 ((try (walk_at "WP")); (try (simp only [t13, Option.some.injEq, HO.tup.injEq, HO.lst.injEq, HO.dK.injEq, exists_eq_left', exists_eq_left])))); (try (walk_at "WP"))
  refine ⟨i1, i2, ⟨rfl, rfl⟩, by omega, by omega, by omega, fun ld H4 nd sd hd => ?_⟩
  have S4 := S3.trans sd
  have t14 := S4 _ _ t1
  have dl4 := S4 _ _ W1.dll
  (iterate 5 ((try (walk_at "WP")); (try (simp only [t14, dl4, Option.some.injEq, HO.tup.injEq, HO.lst.injEq, HO.dK.injEq, exists_eq_left', exists_eq_left])))); (try (walk_at "WP"))
  refine ⟨_, b, d2, g2, i2, u2, rfl, S4 _ _ t2, S4 _ _ W2.dll, by omega, by omega, by omega, fun le H5 ne se he => ?_⟩
  have hd5 := se _ _ hd
  (iterate 5 ((try (walk_at "WP")); (try (simp only [hd5, he, Option.some.injEq, HO.tup.injEq, HO.lst.injEq, HO.dK.injEq, exists_eq_left', exists_eq_left])))); (try (walk_at "WP"))
  refine ⟨by rw [rngV_len, rngV_len]; exact le_big (by omega), fun lf nf => ?_⟩
  rw [rng_two, l2]
  have sf := same_new nf (.lst ((rngI i1 i2 ++ rngI ((i1 : Int) + i2 + (u1.length : Int)) s2.length).map V.int))
  have hf : upd H5 lf (.lst ((rngI i1 i2 ++ rngI ((i1 : Int) + i2 + (u1.length : Int)) s2.length).map V.int)) lf = some (.lst ((rngI i1 i2 ++ rngI ((i1 : Int) + i2 + (u1.length : Int)) s2.length).map V.int)) := upd_same
  have S6' := (sd.trans se).trans sf
  generalize upd H5 lf (.lst ((rngI i1 i2 ++ rngI ((i1 : Int) + i2 + (u1.length : Int)) s2.length).map V.int)) = H6 at hf S6' ⊢
  have S6 := S3.trans S6'
  try walk_at "WP"
  refine ⟨a, d1, g1, lc, i1, u1, s1, o1, _, rfl, W1.same S6, S6' _ _ hc, by rw [List.length_append, rngI_len, rngI_len], fun ra da ga xa ya H7 nr7 s7 hr7 hd7 xl7 hg7 yl7 => ?_⟩
  try walk_at "WP"
  have S7 := S6.trans s7
  refine ⟨b, d2, g2, lf, i2, u2, s2, o2, _, rfl, W2.same S7, s7 _ _ hf, by rw [List.length_append, rngI_len, rngI_len], fun rb db gb xb yb H8 nr8 s8 hr8 hd8 xl8 hg8 yl8 => ?_⟩
  have S8 := S7.trans s8
  have oo1 := W1.ol
  have oo2 := W2.ol
  try walk_at "WP"
  exact ⟨_, ra, rb, da, ga, db, gb, _, _, xa, ya, xb, yb, rfl, s8 _ _ hr7, hr8, s8 _ _ hd7, s8 _ _ hg7, hd8, hg8, by omega, by omega, by omega, by omega, fun z2 H9 s9 => qE (.inr (by omega)) _ (S8.trans s9), fun z2 r H9 s9 => qQ (by omega) _ _ (S8.trans s9)⟩
theorem okx_both (T : Txt K mg) {cst_NoJoin : Addr} (mg_NoJoin : mg "NoJoin" = some (.ref cst_NoJoin)) (xi_NoJoin : PySem.W.excIn K cst_NoJoin [.type "ValueError", .type "Exception", .type "BaseException", .type "object"] "ValueError.__new__" = true) : CalX P w K mg base 4 "both" ["one", "other"] (spJoin "both" cst_NoJoin) := by
  have B := T.bl
  have C_deed_things := (ok_dthings (P := P) (w := w) (base := base) T).mono (k := 3) (by decide)
  have C_thing_count := (ok_cntJ (P := P) (w := w) (base := base) T).mono (k := 3) (by decide)
  have C_renumbered := ok_renum (P := P) (w := w) (base := base) T
  have X_put_together := (okx_put (P := P) (w := w) (base := base) T mg_NoJoin xi_NoJoin).mono (k := 3) (by decide)
  refine mkCalX T.t_both sc_both (fun vs H Q E h => ?_) (fun f cdv A outer s H vs Q E hr h => ?_)
  · obtain ⟨_, _, _, _, _, _, _, _, _, _, _, _, _, _, rfl, _⟩ := h
    rfl
  obtain ⟨a, b, d1, g1, d2, g2, i1, i2, u1, u2, s1, s2, o1, o2, rfl, W1, W2, qE, qQ⟩ := h
  unfold refJ at qE qQ
  rw [if_neg (by decide), if_neg (by decide)] at qE qQ
  refine ⟨_, (pss_cons (PS.nox (ps_set (i := 2) sc_both.nd rfl (by first | exact Or.inl rfl | exact Or.inr rfl) (pe_ix ix_U (pv 0) pe_int (fun _ _ => rfl))))
    (pss_cons (ps_if (pt_cmpR op_ne (pe_ix ix_U (pv 1) pe_int (fun _ _ => rfl)) (pv 2) (nomark _)) (pss_one (ps_raise (C := cst_NoJoin) raises_of xi_NoJoin PySem.F.excBase_ValueError rfl (fun _ z => nomatch z) rfl mg_NoJoin (pa_cons pe_str pa_nil))) pss_nil)
    (pss_cons (PS.nox (ps_set (i := 3) sc_both.nd rfl (by first | exact Or.inl rfl | exact Or.inr rfl) (pe_op op_cat (pe_listrange rfl rfl B.list rfl B.range (pa_cons (pv 2) pa_nil)) (pe_cal C_deed_things hr rfl (pa_cons (pe_cal C_thing_count hr rfl (pa_cons (pv 0) pa_nil)) (pa_cons (pv 1) pa_nil))))))
    (pss_one (ps_ret (pe_calX E X_put_together passes_of hr rfl (pa_cons (pv 2) (pa_cons (pv 0) (pa_cons (pe_cal C_renumbered hr rfl (pa_cons (pv 1) (pa_cons (pv 3) pa_nil))) pa_nil))))))))), ?_⟩
  rw [show start ["one", "other", "ins", "others"] [.ref a, .ref b] = [some (.ref a), some (.ref b), none, none] from rfl]
  have t1 := W1.tup
  have t2 := W2.tup
  have e1 := W1.dl6
  have e2 := W2.dl6
  have l1 := W1.hds.len
  have l2 := W2.hds.len
  have i112 := W1.i12
  have i212 := W2.i12
  (iterate 5 ((try (walk_at "WP")); (try (simp only [t1, t2, Option.some.injEq, HO.tup.injEq, HO.lst.injEq, HO.dK.injEq, exists_eq_left', exists_eq_left])))); (try (walk_at "WP"))
  refine ite2 (fun z => ?_) (fun z => ?_)
  · rw [w_raise]
    try walk_at "WP"
    exact qE (.inl (by omega)) _ (Same.refl _)
  (iterate 5 ((try (walk_at "WP")); (try (simp only [t1, t2, Option.some.injEq, HO.tup.injEq, HO.lst.injEq, HO.dK.injEq, exists_eq_left', exists_eq_left])))); (try (walk_at "WP"))
  refine ⟨i1, rfl, by omega, fun la H1 na sa ha => ?_⟩
  refine ⟨a, d1, g1, i1, u1, rfl, sa _ _ t1, sa _ _ W1.dll, ?_⟩
  try walk_at "WP"
  refine ⟨_, b, d2, g2, i2, u2, rfl, sa _ _ t2, sa _ _ W2.dll, by omega, by omega, by omega, fun lb H2 nb sb hb => ?_⟩
  have ha2 := sb _ _ ha
  (iterate 5 ((try (walk_at "WP")); (try (simp only [ha2, hb, Option.some.injEq, HO.tup.injEq, HO.lst.injEq, HO.dK.injEq, exists_eq_left', exists_eq_left])))); (try (walk_at "WP"))
  refine ⟨by rw [rngV_len, rngV_len]; exact le_big (by omega), fun lc nc => ?_⟩
  rw [rng_two, l2]
  have sc := same_new nc (.lst ((rngI 0 i1 ++ rngI ((i1 : Int) + (u1.length : Int)) s2.length).map V.int))
  have hc : upd H2 lc (.lst ((rngI 0 i1 ++ rngI ((i1 : Int) + (u1.length : Int)) s2.length).map V.int)) lc = some (.lst ((rngI 0 i1 ++ rngI ((i1 : Int) + (u1.length : Int)) s2.length).map V.int)) := upd_same
  have S3 := (sa.trans sb).trans sc
  generalize upd H2 lc (.lst ((rngI 0 i1 ++ rngI ((i1 : Int) + (u1.length : Int)) s2.length).map V.int)) = H3 at hc S3 ⊢
  try walk_at "WP"
  refine ⟨b, d2, g2, lc, i2, u2, s2, o2, _, rfl, W2.same S3, hc, by rw [List.length_append, rngI_len, rngI_len]; omega, fun rb db gb xb yb H8 nr8 s8 hr8 hd8 xl8 hg8 yl8 => ?_⟩
  have S8 := S3.trans s8
  have oo1 := W1.ol
  have oo2 := W2.ol
  try walk_at "WP"
  exact ⟨_, a, rb, d1, g1, db, gb, _, _, u1, o1, xb, yb, rfl, S8 _ _ t1, hr8, S8 _ _ W1.dll, S8 _ _ W1.gll, hd8, hg8, by omega, by omega, by omega, by omega, fun z2 H9 s9 => qE (.inr (by omega)) _ (S8.trans s9), fun z2 r H9 s9 => qQ (by omega) _ _ (S8.trans s9)⟩
theorem okx_behind (T : Txt K mg) {cst_NoJoin : Addr} (mg_NoJoin : mg "NoJoin" = some (.ref cst_NoJoin)) (xi_NoJoin : PySem.W.excIn K cst_NoJoin [.type "ValueError", .type "Exception", .type "BaseException", .type "object"] "ValueError.__new__" = true) : CalX P w K mg base 4 "behind" ["one", "other"] (spJoin "behind" cst_NoJoin) := by
  have B := T.bl
  have C_moved_parts := (ok_movs (P := P) (w := w) (base := base) T).mono (k := 3) (by decide)
  have C_parts_of := (ok_partsof (P := P) (w := w) (base := base) T).mono (k := 3) (by decide)
  have C_add_sum := (ok_addsum (P := P) (w := w) (base := base) T).mono (k := 3) (by decide)
  refine mkCalX T.t_behind sc_behind (fun vs H Q E h => ?_) (fun f cdv A outer s H vs Q E hr h => ?_)
  · obtain ⟨_, _, _, _, _, _, _, _, _, _, _, _, _, _, rfl, _⟩ := h
    rfl
  obtain ⟨a, b, d1, g1, d2, g2, i1, i2, u1, u2, s1, s2, o1, o2, rfl, W1, W2, qE, qQ⟩ := h
  unfold refJ at qE qQ
  rw [if_pos rfl] at qE qQ
  refine ⟨_, (pss_cons (ps_if (pt_cmpR op_ne (pe_callB call_lenM rfl B.len bo_len (pa_cons (pe_ix ix_U (pv 0) pe_int (fun _ _ => rfl)) pa_nil)) (pe_ix ix_U (pv 1) pe_int (fun _ _ => rfl)) (nomark _)) (pss_one (ps_raise (C := cst_NoJoin) raises_of xi_NoJoin PySem.F.excBase_ValueError rfl (fun _ z => nomatch z) rfl mg_NoJoin (pa_cons pe_str pa_nil))) pss_nil)
    (pss_cons (PS.nox (ps_set (i := 2) sc_behind.nd rfl (by first | exact Or.inl rfl | exact Or.inr rfl) (pe_ix ix_U (pv 0) pe_int (fun _ _ => rfl))))
    (pss_cons (PS.nox (ps_set (i := 3) sc_behind.nd rfl (by first | exact Or.inl rfl | exact Or.inr rfl) (pe_callTy call_list_of rfl B.list bo_list (pa_cons (pe_ix ix_U (pv 0) pe_int (fun _ _ => rfl)) pa_nil))))
    (pss_cons (PS.nox (ps_set (i := 4) sc_behind.nd rfl (by first | exact Or.inl rfl | exact Or.inr rfl) (pe_callTy call_list_of rfl B.list bo_list (pa_cons (pe_ix ix_U (pv 0) pe_int (fun _ _ => rfl)) pa_nil))))
    (pss_cons (PS.nox (ps_for PassesOwn.never rfl (pi_list (pe_ix ix_U (pv 1) pe_int (fun _ _ => rfl))) (pg_name (i := 5) sc_behind.nd rfl (by first | exact Or.inl rfl | exact Or.inr rfl)) (pss_cons (ps_set (i := 6) sc_behind.nd rfl (by first | exact Or.inl rfl | exact Or.inr rfl) (pe_cal C_moved_parts hr rfl (pa_cons (pe_cal C_parts_of hr rfl (pa_cons (pv 5) pa_nil)) (pa_cons (pv 4) pa_nil))))
    (pss_one (ps_expr (pe_bm PySem.F.plainAttrs_list PySem.F.slot_list_append PySem.F.type_list_append mt_append (pv 4) (pa_cons (pe_cal C_add_sum hr rfl (pa_cons (pv 2) (pa_cons (pv 3) (pa_cons (pe_ix ix_M (pv 6) pe_int (fun _ _ => rfl)) (pa_cons (pe_ix ix_M (pv 6) pe_int (fun _ _ => rfl)) pa_nil))))) pa_nil)))))))
    (pss_one (PS.nox (ps_ret (pe_tup (pa_cons (pv 2) (pa_cons (pv 3) (pa_cons (pe_cal C_moved_parts hr rfl (pa_cons (pe_ix ix_U (pv 1) pe_int (fun _ _ => rfl)) (pa_cons (pv 4) pa_nil))) pa_nil)))))))))))), ?_⟩
  rw [show start ["one", "other", "ins", "deeds", "stands", "deed", "parts"] [.ref a, .ref b] = [some (.ref a), some (.ref b), none, none, none, none, none] from rfl]
  have t1 := W1.tup
  have t2 := W2.tup
  have e1 := W1.dl6
  have e2 := W2.dl6
  have l1 := W1.hds.len
  have l2 := W2.hds.len
  have i112 := W1.i12
  have i212 := W2.i12
  have gg1 := W1.gll
  have oo1 := W1.ol
  have oo2 := W2.ol
  (iterate 5 ((try (walk_at "WP")); (try (simp only [t1, t2, gg1, Option.some.injEq, HO.tup.injEq, HO.lst.injEq, HO.dK.injEq, exists_eq_left', exists_eq_left])))); (try (walk_at "WP"))
  refine ite2 (fun z => ?_) (fun z => ?_)
  · rw [w_raise]
    try walk_at "WP"
    exact qE (by omega) _ (Same.refl _)
  (iterate 5 ((try (walk_at "WP")); (try (simp only [t1, t2, Option.some.injEq, HO.tup.injEq, HO.lst.injEq, HO.dK.injEq, exists_eq_left', exists_eq_left])))); (try (walk_at "WP"))
  refine ⟨u1, .inl (SqL.of W1.dll), fun l nl => ?_⟩
  have sl := same_new nl (.lst u1)
  have hl : upd H l (.lst u1) l = some (.lst u1) := upd_same
  generalize upd H l (.lst u1) = H1 at sl hl ⊢
  have t11 := sl _ _ t1
  (iterate 5 ((try (walk_at "WP")); (try (simp only [t11, Option.some.injEq, HO.tup.injEq, HO.lst.injEq, HO.dK.injEq, exists_eq_left', exists_eq_left])))); (try (walk_at "WP"))
  refine ⟨o1, .inl (SqL.of (sl _ _ gg1)), fun m nm => ?_⟩
  have sm' := same_new nm (.lst o1)
  have hm : upd H1 m (.lst o1) m = some (.lst o1) := upd_same
  have hl2 := sm' _ _ hl
  have sm := sl.trans sm'
  have nm0 : H m = none := sl.free nm
  have lm : l ≠ m := ne_of_none hl nm
  generalize upd H1 m (.lst o1) = H2 at sm hm hl2 ⊢
  have t22 := sm _ _ t2
  (iterate 5 ((try (walk_at "WP")); (try (simp only [t22, Option.some.injEq, HO.tup.injEq, HO.lst.injEq, HO.dK.injEq, exists_eq_left', exists_eq_left])))); (try (walk_at "WP"))
  refine ⟨⟨_, SqL.of (sm _ _ W2.dll)⟩, ?_⟩
  refine forL (xs := u2) (fun k σ H' => ∃ (xs ys : List V) (o5 o6 : Option V), σ = [some (.ref a), some (.ref b), some (.int i1), some (.ref l), some (.ref m), o5, o6] ∧ Same H H' ∧ H' l = some (.lst xs) ∧ xs.length ≤ s1.length + k ∧ H' m = some (.lst ys) ∧ ys.length = i2 + k ∧ ∀ v ∈ ys, Prt K H' v) ⟨u1, o1, none, none, rfl, sm, hl2, by omega, hm, by omega, fun v hv => ((W1.go v hv).same sm).pt⟩ ?_ ?_ ?_
  · rintro k σ H' _ ⟨_, _, _, _, _, S, _⟩
    exact SqL.of (S _ _ W2.dll)
  · rintro k x σ H3 N hx ⟨xs, ys, o5, o6, rfl, S3, hl3, xl, hm3, yl, hys⟩ hN
    have kl : k < s2.length := by rw [← l2]; exact (List.getElem?_eq_some_iff.mp hx).1
    have hdk : s2[k]? = some s2[k] := List.getElem?_eq_getElem kl
    generalize s2[k] = d at hdk
    obtain ⟨yp, hy1, hy2⟩ := W2.hds.at_ k d hdk
    rw [hx] at hy1
    cases hy1
    obtain ⟨da, db, _⟩ := W2.dk k d hdk
    try walk_at "WP"
    refine ⟨yp, d, i2 + k, rfl, S3 _ _ hy2, da, db, fun r u v H4 nr s4 hr4 hu hv => ?_⟩
    try walk_at "WP"
    refine ⟨r, m, [u, v], ys, rfl, hr4, fun y hy => ?_, s4 _ _ hm3, fun y hy => (hys y hy).same s4, by simp, fun r2 rs H5 nr2 s5 hr5 rl hrs => ?_⟩
    · rw [yl]
      rcases List.mem_cons.mp hy with z | z
      · rw [z]; exact hu
      · rw [List.mem_singleton.mp z]; exact hv
    obtain ⟨p0, p1, rfl⟩ : ∃ p0 p1, rs = [p0, p1] := by
      match rs, rl with
      | [a, b], _ => exact ⟨a, b, rfl⟩
    have s5' := s4.trans s5
    have hm5 := s5' _ _ hm3
    have hl5 := s5' _ _ hl3
    (iterate 5 ((try (walk_at "WP")); (try (simp only [hr5, Option.some.injEq, HO.tup.injEq, HO.lst.injEq, HO.dK.injEq, exists_eq_left', exists_eq_left])))); (try (walk_at "WP"))
    refine ⟨ty_list hm5, ?_⟩
    refine ⟨_, l, p0, p1, xs, rfl, hl5, by omega, hrs _ (List.mem_cons_self ..), hrs _ (List.mem_cons_of_mem _ (List.mem_cons_self ..)), fun r6 ys6 H6 c6 hl6 yl6 hr6 => ?_⟩
    have hm6 := c6 _ _ lm.symm hm5
    (iterate 5 ((try (walk_at "WP")); (try (simp only [hm6, Option.some.injEq, HO.tup.injEq, HO.lst.injEq, HO.dK.injEq, exists_eq_left', exists_eq_left])))); (try (walk_at "WP"))
    refine ⟨lt_big (by omega), ?_⟩
    have S6 : Same H H6 := same_chg nl (S3.trans s5') c6
    have c7 : Chg m H6 (upd H6 m (.lst (ys ++ [r6]))) := Chg.upd _
    refine hN _ _ ⟨ys6, _, _, _, rfl, same_chg nm0 S6 c7, c7 _ _ lm hl6, by omega, upd_same, by simp; omega, fun y hy => ?_⟩
    rcases List.mem_append.mp hy with z | z
    · exact (((hys y z).same s5').chg hl5 c6).chg hm6 c7
    · rw [List.mem_singleton.mp z]
      exact hr6.chg hm6 c7
  · rintro σ H3 ⟨xs, ys, o5, o6, rfl, S3, hl3, xl, hm3, yl, hys⟩
    have t23 := S3 _ _ t2
    (iterate 5 ((try (walk_at "WP")); (try (simp only [t23, Option.some.injEq, HO.tup.injEq, HO.lst.injEq, HO.dK.injEq, exists_eq_left', exists_eq_left])))); (try (walk_at "WP"))
    refine ⟨g2, m, o2, ys, rfl, S3 _ _ W2.gll, fun y hy => ?_, hm3, hys, by omega, fun r rs H4 nr s4 hr4 rl hrs => ?_⟩
    · rw [show ys.length = i2 + s2.length by omega]
      exact (W2.go y hy).same S3
    try walk_at "WP"
    intro r5 nr5
    exact qQ (by omega) _ _ ((S3.trans s4).trans (same_new nr5 _))
theorem okx_joined (T : Txt K mg) {J : Addr} (X_behind : CalX P w K mg base 4 "behind" ["one", "other"] (spJoin "behind" J)) (X_beside : CalX P w K mg base 4 "beside" ["one", "other"] (spJoin "beside" J)) (X_both : CalX P w K mg base 4 "both" ["one", "other"] (spJoin "both" J)) : CalX P w K mg base 5 "_law_joined" ["_law_word", "_law_one", "_law_other"] (spJoined J) := by
  have B := T.bl
  refine mkCalX T.t_l_joined sc_l_joined (fun vs H Q E h => ?_) (fun f cdv A outer s H vs Q E hr h => ?_)
  · obtain ⟨_, _, _, rfl, _⟩ := h
    rfl
  obtain ⟨wd, a, b, rfl, h⟩ := h
  refine ⟨_, (pss_cons (ps_if (pt_cmpR op_eq (pv 0) pe_str (nomark _)) (pss_one (ps_ret (pe_calX E X_behind passes_of hr rfl (pa_cons (pv 1) (pa_cons (pv 2) pa_nil))))) pss_nil)
    (pss_cons (ps_if (pt_cmpR op_eq (pv 0) pe_str (nomark _)) (pss_one (ps_ret (pe_calX E X_beside passes_of hr rfl (pa_cons (pv 1) (pa_cons (pv 2) pa_nil))))) pss_nil)
    (pss_one (ps_ret (pe_calX E X_both passes_of hr rfl (pa_cons (pv 1) (pa_cons (pv 2) pa_nil))))))), ?_⟩
  rw [show start ["_law_word", "_law_one", "_law_other"] [.str wd, .ref a, .ref b] = [some (.str wd), some (.ref a), some (.ref b)] from rfl]
  try walk_at "WP"
  refine ite2 (fun z => ?_) (fun z => ?_)
  · subst z
    exact h
  refine ite2 (fun z2 => ?_) (fun z2 => ?_)
  · subst z2
    exact h
  obtain ⟨a', b', d1, g1, d2, g2, i1, i2, u1, u2, s1, s2, o1, o2, e, W1, W2, qE, qQ⟩ := h
  refine ⟨a', b', d1, g1, d2, g2, i1, i2, u1, u2, s1, s2, o1, o2, e, W1, W2, fun y => qE ?_, fun y => qQ ?_⟩
  · unfold refJ at y ⊢
    rw [if_neg (by decide), if_neg (by decide)] at y
    rw [if_neg z, if_neg z2]
    exact y
  · unfold refJ at y ⊢
    rw [if_neg (by decide), if_neg (by decide)] at y
    rw [if_neg z, if_neg z2]
    exact y
end

section
variable {P : Program} {w : World} {K : PySem.W.Frag} {mg : Str → Option Value} {base : Heap}
theorem ok_lpen (T : Txt K mg) : Cal P w K mg base 1 "_law_pen" ["_law_script"] (spLPen K) := by
  have B := T.bl
  refine mkCal T.t_l_pen sc_l_pen (fun vs H Q E h => ?_) (fun f cdv A outer s H vs Q E hr h => ?_)
  · obtain ⟨a, rfl, _⟩ := h
    rfl
  obtain ⟨a, rfl, q⟩ := h
  refine ⟨_, (pss_one (ps_ret (pe_lst (pa_cons (pv 0) (pa_cons pe_int (pa_cons pe_int pa_nil)))))), ?_⟩
  rw [show start ["_law_script"] [.ref a] = [some (.ref a)] from rfl]
  try walk_at "WP"
  intro p hp
  exact q p _ hp (same_new hp _) (lpen_of (by decide) (by decide) (by decide))
theorem ok_ltake (T : Txt K mg) : Cal P w K mg base 1 "_law_take" ["_law_pen_here", "_law_many"] (spLTake K) := by
  have B := T.bl
  refine mkCal T.t_l_take sc_l_take (fun vs H Q E h => ?_) (fun f cdv A outer s H vs Q E hr h => ?_)
  · obtain ⟨p, a, ns, m, c, rfl, _⟩ := h
    rfl
  obtain ⟨p, a, ns, m, c_, rfl, hP, hS, h63, hc, h1, h2, q⟩ := h
  refine ⟨_, (pss_cons (ps_asg (pv 0) (pg_lst 3 rfl (pgs_cons (pg_name (i := 2) sc_l_take.nd rfl (by first | exact Or.inl rfl | exact Or.inr rfl)) (pgs_cons (pg_name (i := 3) sc_l_take.nd rfl (by first | exact Or.inl rfl | exact Or.inr rfl)) (pgs_cons (pg_name (i := 4) sc_l_take.nd rfl (by first | exact Or.inl rfl | exact Or.inr rfl)) pgs_nil)))))
    (pss_cons (ps_if (pt_cmpR op_gt (pv 4) pe_int (nomark _)) (pss_cons (ps_asg (pe_op op_fdivB (pv 4) (pv 1)) (pg_sub (pv 0) pe_int set_list))
    (pss_one (ps_ret (pe_op op_mod (pv 4) (pv 1))))) pss_nil)
    (pss_cons (ps_asg (pe_op op_add (pv 3) pe_int) (pg_sub (pv 0) pe_int set_list))
    (pss_cons (ps_set (i := 5) sc_l_take.nd rfl (by first | exact Or.inl rfl | exact Or.inr rfl) (pe_op op_add (pe_op op_mulB pe_int (pv 3)) pe_int))
    (pss_mid (ps_if (pt_cmpR op_gt (pe_callB call_lenS rfl B.len bo_len (pa_cons (pv 2) pa_nil)) pe_int (nomark _)) (pss_one (ps_set (i := 5) sc_l_take.nd rfl (by first | exact Or.inl rfl | exact Or.inr rfl) (pe_ix ix_list (pv 2) (pe_op op_mod (pv 3) (pe_callB call_lenS rfl B.len bo_len (pa_cons (pv 2) pa_nil))) (fun _ _ => rfl)))) pss_nil)
    (pss_cons (ps_if (PW.pt (pw_and (pt_cmpR op_lt (pv 3) (pe_callB call_lenS rfl B.len bo_len (pa_cons (pv 2) pa_nil)) (nomark _)) (pw_and1 (pt_cmpR op_ge (pe_callB call_abs rfl B.abs bo_abs (pa_cons (pv 5) pa_nil)) (pe_op op_powB pe_int pe_int) (nomark _))))) (pss_cons (ps_asg (pe_op op_fdivB (pe_callB call_abs rfl B.abs bo_abs (pa_cons (pv 5) pa_nil)) (pv 1)) (pg_sub (pv 0) pe_int set_list))
    (pss_one (ps_ret (pe_op op_mod (pe_callB call_abs rfl B.abs bo_abs (pa_cons (pv 5) pa_nil)) (pv 1))))) pss_nil)
    (pss_cons (ps_set (i := 6) sc_l_take.nd rfl (by first | exact Or.inl rfl | exact Or.inr rfl) (pe_op op_mod (pe_op op_mulB (pe_op op_add (pe_op op_add (pe_op op_mod (pv 5) pe_int) (pe_op op_mulB pe_int (pv 3))) pe_int) pe_int) pe_int))
    (pss_cons (ps_set (i := 6) sc_l_take.nd rfl (by first | exact Or.inl rfl | exact Or.inr rfl) (pe_op op_mod (pe_op op_add (pe_op op_add (pe_op op_mulB (pv 6) (pv 6)) (pe_op op_mulB pe_int (pv 3))) pe_int) pe_int))
    (pss_one (ps_ret (pe_op op_mod (pe_op op_fdivB (pe_op op_mod (pe_op op_mulB (pv 6) (pv 6)) pe_int) pe_int) (pv 1)))))))))))), ?_⟩
  rw [show start ["_law_pen_here", "_law_many", "_law_script", "_law_at", "_law_left", "_law_cell", "_law_number"] [.ref p, .int m] = [some (.ref p), some (.int m), none, none, none, none, none] from rfl]
  obtain ⟨t, l, hH, ht0, htc, hl⟩ := id hP
  (iterate 5 ((try (walk_at "WP")); (try (simp only [hH, Option.some.injEq, HO.tup.injEq, HO.lst.injEq, HO.dK.injEq, exists_eq_left', exists_eq_left])))); (try (walk_at "WP"))
  refine ite2 (fun c => ?_) (fun c => ?_)
  · exact ⟨divB (by omega) h2, by omega, q _ _ (modq (by omega)).1 (modq (by omega)).2 (lpen_of ht0 (by omega) (divq hl (by omega))) (hS.lpen hP (Chg.upd _)) (Chg.upd _)⟩
  refine ⟨mul_l (by decide) (by decide), ?_⟩
  have hS1 := hS.lpen hP (Chg.upd (.lst [V.ref a, V.int (t + 1), V.int l]))
  have hP1 : LPen (upd H p (.lst [V.ref a, V.int (t + 1), V.int l])) p a (c_ + 1) := lpen_of (by omega) (by omega) hl
  have C1 : Chg p H (upd H p (.lst [V.ref a, V.int (t + 1), V.int l])) := Chg.upd _
  have hp1 : (upd H p (.lst [V.ref a, V.int (t + 1), V.int l])) p = some (.lst [V.ref a, V.int (t + 1), V.int l]) := upd_same
  generalize upd H p (.lst [V.ref a, V.int (t + 1), V.int l]) = H1 at *
  refine mid_of (fun σ H2 => ∃ (cell : Int), σ = [some (.ref p), some (.int m), some (.ref a), some (.int t), some (.int l), some (.int cell), none] ∧ H2 = H1) (fun N hN => ?_) ?_
  · try walk_at "WP"
    refine ⟨_, hS1.sq, ?_⟩
    rw [List.length_map]
    refine ite2 (fun z => ?_) (fun z => hN _ _ ⟨_, rfl, rfl⟩)
    refine ⟨_, hS1.sq, by rw [List.length_map]; omega, _, hS1.sq, ?_⟩
    rw [List.length_map]
    have b := modq (g := t) (m := (ns.length : Int)) (by omega)
    obtain ⟨v, hv, _⟩ := atI_int (ns := ns) b.1 b.2
    exact ⟨_, hv, hN _ _ ⟨v, rfl, rfl⟩⟩
  · rintro σ H2 ⟨cell, rfl, rfl⟩
    (iterate 5 ((try (walk_at "WP")); (try (simp only [hp1, Option.some.injEq, HO.tup.injEq, HO.lst.injEq, HO.dK.injEq, exists_eq_left', exists_eq_left])))); (try (walk_at "WP"))
    refine ⟨_, hS1.sq, ?_⟩
    rw [List.length_map]
    have h0 : 0 ≤ (if cell < 0 then -cell else cell) := by split <;> omega
    generalize hn1 : (cell % 2147483563 + 48271 * t + 11) * 40692 % 2147483647 = n1
    have n1b : 0 ≤ n1 ∧ n1 < 2147483647 := by omega
    generalize hn2 : (n1 * n1 + 16807 * t + 29) % 2147483629 = n2
    have n2b : 0 ≤ n2 ∧ n2 < 2147483629 := by omega
    have last : IntMulOk 48271 t ∧ IntMulOk (cell % 2147483563 + 48271 * t + 11) 40692 ∧ IntMulOk n1 n1 ∧ IntMulOk 16807 t ∧ IntMulOk n2 n2 ∧ CDivB (n2 * n2 % 2147483587) 64 ∧ 0 < m ∧ Q (V.int (n2 * n2 % 2147483587 / 64 % m)) H2 :=
      ⟨mul_l (by decide) (by decide), mul_r (by decide) (by decide), mul_l (by omega) (by omega), mul_l (by decide) (by decide), mul_l (by omega) (by omega), divB (by decide) (by decide), by omega, q _ _ (modq (by omega)).1 (modq (by omega)).2 hP1 hS1 C1⟩
    refine ite2 (fun _ => ?_) (fun _ => last)
    refine ite2 (fun _ => ?_) (fun _ => last)
    exact ⟨divB (by omega) h2, by omega, q _ _ (modq (by omega)).1 (modq (by omega)).2 (lpen_of (by omega) (by omega) (divq h0 (by omega))) (hS1.lpen hP1 (Chg.upd _)) (C1.trans (Chg.upd _))⟩
end

section
variable {P : Program} {w : World} {K : PySem.W.Frag} {mg : Str → Option Value} {base : Heap}
theorem ok_web41 (T : Txt K mg) : Cal P w K mg base 2 "_law_web" ["_law_pen_here", "_law_ins", "_law_many"] (spWebJ K) := by
  have B := T.bl
  have C_l_take := ok_ltake (P := P) (w := w) (base := base) T
  refine mkCal T.t_l_web sc_l_web (fun vs H Q E h => ?_) (fun f cdv A outer s H vs Q E hr h => ?_)
  · obtain ⟨p, a, ns, c, ins, many, rfl, _⟩ := h
    rfl
  obtain ⟨p, a, ns, c_, ins, many, rfl, hP, hS, h63, hc, i1, i12, m12, q⟩ := h
  refine ⟨_, (pss_cons (ps_set (i := 3) sc_l_web.nd rfl (by first | exact Or.inl rfl | exact Or.inr rfl) (pe_lst pa_nil))
    (pss_mid (ps_for PassesOwn.never rfl (pi_range1 rfl B.range (pa_cons (pe_cal C_l_take hr rfl (pa_cons (pv 0) (pa_cons pe_int pa_nil))) pa_nil)) (pg_name (i := 4) sc_l_web.nd rfl (by first | exact Or.inl rfl | exact Or.inr rfl)) (pss_cons (ps_set (i := 5) sc_l_web.nd rfl (by first | exact Or.inl rfl | exact Or.inr rfl) (pe_cal C_l_take hr rfl (pa_cons (pv 0) (pa_cons (pe_op op_add (pv 1) (pv 4)) pa_nil))))
    (pss_cons (ps_set (i := 6) sc_l_web.nd rfl (by first | exact Or.inl rfl | exact Or.inr rfl) (pe_cal C_l_take hr rfl (pa_cons (pv 0) (pa_cons (pe_op op_add (pv 1) (pv 4)) pa_nil))))
    (pss_one (ps_expr (pe_bm PySem.F.plainAttrs_list PySem.F.slot_list_append PySem.F.type_list_append mt_append (pv 3) (pa_cons (pe_tup (pa_cons (pe_ix ix_M (pe_lst (pa_cons pe_str (pa_cons pe_str pa_nil))) (pe_cal C_l_take hr rfl (pa_cons (pv 0) (pa_cons pe_int pa_nil))) (fun _ _ => rfl)) (pa_cons (pv 5) (pa_cons (pe_cal C_l_take hr rfl (pa_cons (pv 0) (pa_cons pe_int pa_nil))) (pa_cons (pv 6) (pa_cons (pe_cal C_l_take hr rfl (pa_cons (pv 0) (pa_cons pe_int pa_nil))) pa_nil)))))) pa_nil)))))))
    (pss_cons (ps_set (i := 7) sc_l_web.nd rfl (by first | exact Or.inl rfl | exact Or.inr rfl) (pe_lst pa_nil))
    (pss_cons (ps_for PassesOwn.never rfl (pi_range1 rfl B.range (pa_cons (pv 2) pa_nil)) (pg_name (i := 4) sc_l_web.nd rfl (by first | exact Or.inl rfl | exact Or.inr rfl)) (pss_cons (ps_set (i := 8) sc_l_web.nd rfl (by first | exact Or.inl rfl | exact Or.inr rfl) (pe_tup (pa_cons (pe_cal C_l_take hr rfl (pa_cons (pv 0) (pa_cons (pe_op op_add (pv 1) (pe_callB call_lenM rfl B.len bo_len (pa_cons (pv 3) pa_nil))) pa_nil))) (pa_cons (pe_cal C_l_take hr rfl (pa_cons (pv 0) (pa_cons pe_int pa_nil))) (pa_cons (pe_ix ix_M (pe_lst (pa_cons pe_int (pa_cons (pe_un un_neg pe_int) pa_nil))) (pe_cal C_l_take hr rfl (pa_cons (pv 0) (pa_cons pe_int pa_nil))) (fun _ _ => rfl)) pa_nil)))))
    (pss_one (ps_expr (pe_bm PySem.F.plainAttrs_list PySem.F.slot_list_append PySem.F.type_list_append mt_append (pv 7) (pa_cons (pe_ix ix_M (pe_lst (pa_cons (pv 8) (pa_cons (pe_tup (pa_cons pe_int (pa_cons pe_int (pa_cons pe_int pa_nil)))) pa_nil))) (pe_callTy call_int1 rfl B.int bo_int (pa_cons (pe_cmpR op_eq (pe_cal C_l_take hr rfl (pa_cons (pv 0) (pa_cons pe_int pa_nil))) pe_int (nomark _)) pa_nil)) (fun _ _ => rfl)) pa_nil))))))
    (pss_one (ps_ret (pe_tup (pa_cons (pv 1) (pa_cons (pv 3) (pa_cons (pv 7) pa_nil)))))))))), ?_⟩
  rw [show start ["_law_pen_here", "_law_ins", "_law_many", "_law_deeds", "_law_k", "_law_a", "_law_b", "_law_goals", "_law_goal"] [.ref p, .int ins, .int many] = [some (.ref p), some (.int ins), some (.int many), none, none, none, none, none, none] from rfl]
  try walk_at "WP"
  intro dl nd
  have sd := same_new nd (.lst [])
  have dp : dl ≠ p := hP.ne nd
  have G0 : GrT wTup H p dl [] [] (upd H dl (.lst [])) := ⟨upd_same, hts_nil, nd, dp⟩
  have P0 := hP.same sd
  have S0 := hS.same sd
  have C0 : Chg p H (upd H dl (.lst [])) := sd.chg
  generalize upd H dl (.lst []) = H1 at G0 P0 S0 C0 ⊢
  refine mid_of (fun σ H' => ∃ (us : List V) (ds : List Wd) (o4 o5 o6 : Option V), σ = [some (.ref p), some (.int ins), some (.int many), some (.ref dl), o4, o5, o6, none, none] ∧ ds.length ≤ 6 ∧ GrT wTup H p dl us ds H' ∧ (∀ (k : Nat) (d : Wd), ds[k]? = some d → d.a < ins + k ∧ d.b < ins + k ∧ (d.w = "sum" ∨ d.w = "less")) ∧ LPen H' p a (c_ + 70) ∧ Scr K H' a ns ∧ Chg p H H') (fun N hN => ?_) ?_
  · try walk_at "WP"
    refine ltake_ P0 S0 h63 (by omega) (by decide) (by decide) fun m H2 m0 m1 P2 S2 C2 => ?_
    have G2 := G0.step P0 C2
    try walk_at "WP"
    refine ⟨by omega, by omega, ?_⟩
    obtain ⟨n, rfl⟩ := Int.eq_ofNat_of_zero_le m0
    rw [Int.toNat_natCast]
    refine forR (fun i σ H' => ∃ (us : List V) (ds : List Wd) (o4 o5 o6 : Option V), σ = [some (.ref p), some (.int ins), some (.int many), some (.ref dl), o4, o5, o6, none, none] ∧ ds.length = i ∧ GrT wTup H p dl us ds H' ∧ (∀ (k : Nat) (d : Wd), ds[k]? = some d → d.a < ins + k ∧ d.b < ins + k ∧ (d.w = "sum" ∨ d.w = "less")) ∧ LPen H' p a (c_ + 1 + 10 * i) ∧ Scr K H' a ns ∧ Chg p H H')
      ⟨[], [], none, none, none, rfl, rfl, G2, fun k d h => by simp at h, P2.mono (by omega), S2, C0.trans C2⟩ ?_ ?_
    · rintro i σ H3 N2 hi ⟨us, ds, o4, o5, o6, rfl, dl_, G3, dk, P3, S3, C3⟩ hN2
      try walk_at "WP"
      refine ltake_ P3 S3 h63 (by omega) (by omega) (by omega) fun ra H4 ra0 ra1 P4 S4 C4 => ?_
      have G4 := G3.step P3 C4
      try walk_at "WP"
      refine ltake_ P4 S4 h63 (by omega) (by omega) (by omega) fun rb H5 rb0 rb1 P5 S5 C5 => ?_
      have G5 := G4.step P4 C5
      try walk_at "WP"
      refine ⟨ty_list G5.dll, ?_⟩
      refine lpick2 P5 S5 h63 (by omega) fun bw H6 P6 S6 C6 => ?_
      have G6 := G5.step P5 C6
      try walk_at "WP"
      refine ltake_ P6 S6 h63 (by omega) (by decide) (by decide) fun rs H7 rs0 rs1 P7 S7 C7 => ?_
      have G7 := G6.step P6 C7
      try walk_at "WP"
      refine ltake_ P7 S7 h63 (by omega) (by decide) (by decide) fun rt H8 rt0 rt1 P8 S8 C8 => ?_
      have G8 := G7.step P7 C8
      have C8' := (((C3.trans C4).trans C5).trans C6).trans (C7.trans C8)
      try walk_at "WP"
      intro tp ntp
      obtain ⟨ja, rfl⟩ := Int.eq_ofNat_of_zero_le ra0
      obtain ⟨jb, rfl⟩ := Int.eq_ofNat_of_zero_le rb0
      obtain ⟨wd, hwd, ewd⟩ : ∃ wd : Str, (wd = "sum" ∨ wd = "less") ∧ (if bw = true then V.str "sum" else V.str "less") = .str wd := by
        cases bw
        · exact ⟨_, .inr rfl, rfl⟩
        · exact ⟨_, .inl rfl, rfl⟩
      rw [ewd]
      have e0 : ([V.str wd, V.int (ja : Int), V.int rs, V.int (jb : Int), V.int rt] : List V) = wTup ⟨wd, ja, rs, jb, rt⟩ := rfl
      rw [e0]
      have st := same_new ntp (.tup (wTup ⟨wd, ja, rs, jb, rt⟩))
      have G9 := G8.same st
      have P9 := P8.same st
      have S9 := S8.same st
      have C9 := C8'.trans st.chg
      have ht : upd H8 tp (.tup (wTup ⟨wd, ja, rs, jb, rt⟩)) tp = some (.tup (wTup ⟨wd, ja, rs, jb, rt⟩)) := upd_same
      generalize upd H8 tp (.tup (wTup ⟨wd, ja, rs, jb, rt⟩)) = H9 at G9 P9 S9 C9 ht ⊢
      have d9 := G9.dll
      have ul := G9.hds.len
      (iterate 5 ((try (walk_at "WP")); (try (simp only [d9, Option.some.injEq, HO.tup.injEq, HO.lst.injEq, HO.dK.injEq, exists_eq_left', exists_eq_left])))); (try (walk_at "WP"))
      refine ⟨lt_big (by omega), ?_⟩
      refine hN2 _ _ ⟨_, _, _, _, _, rfl, by simp [dl_], G9.snoc ht, fun k d hk => ?_, (P9.chg G9.dp.symm (Chg.upd _)).mono (by omega), S9.chg d9 (Chg.upd _), C9.two nd (Chg.upd _)⟩
      rw [List.getElem?_append] at hk
      split at hk
      · exact dk k d hk
      · rename_i hk2
        obtain ⟨y, _⟩ := List.getElem?_eq_some_iff.mp hk
        simp at y
        have ek : k = ds.length := by omega
        subst ek
        simp at hk
        subst hk
        exact ⟨by simp; omega, by simp; omega, hwd⟩
    · rintro σ H3 ⟨us, ds, o4, o5, o6, rfl, dl_, G3, dk, P3, S3, C3⟩
      exact hN _ _ ⟨us, ds, o4, o5, o6, rfl, by omega, G3, dk, P3.mono (by omega), S3, C3⟩
  rintro σ H2 ⟨us, ds, o4, o5, o6, rfl, d6, G2, dk, P2, S2, C2⟩
  try walk_at "WP"
  intro gl ng
  have sg := same_new ng (.lst [])
  have gp : gl ≠ p := P2.ne ng
  have ng0 : H gl = none := C2.new gp ng
  have dg : dl ≠ gl := ne_of_none G2.dll ng
  have F3 : GrT gTp H p gl [] [] (upd H2 gl (.lst [])) := ⟨upd_same, hts_nil, ng0, gp⟩
  have G3 := G2.same sg
  have P3 := P2.same sg
  have S3 := S2.same sg
  have C3 := C2.trans sg.chg
  generalize upd H2 gl (.lst []) = H3 at F3 G3 P3 S3 C3 ⊢
  try walk_at "WP"
  refine ⟨by omega, by omega, ?_⟩
  rw [Int.toNat_natCast]
  refine forR (fun i σ H' => ∃ (os : List V) (gs : List Go) (o4 o8 : Option V), σ = [some (.ref p), some (.int ins), some (.int many), some (.ref dl), o4, o5, o6, some (.ref gl), o8] ∧ gs.length = i ∧ GrT wTup H p dl us ds H' ∧ GrT gTp H p gl os gs H' ∧ (∀ g ∈ gs, g.th < ins + ds.length ∧ (g.sg = 0 ∨ g.sg = 1 ∨ g.sg = -1)) ∧ LPen H' p a (c_ + 70 + 10 * i) ∧ Scr K H' a ns ∧ Chg p H H')
      ⟨[], [], _, none, rfl, rfl, G3, F3, (fun g h => by cases h), P3.mono (by omega), S3, C3⟩ ?_ ?_
  · rintro i σ H3 N2 hi ⟨os, gs, o4, o8, rfl, gl_, G3, F3, gk, P3, S3, C3⟩ hN2
    have d3 := G3.dll
    have ul := G3.hds.len
    (iterate 5 ((try (walk_at "WP")); (try (simp only [d3, Option.some.injEq, HO.tup.injEq, HO.lst.injEq, HO.dK.injEq, exists_eq_left', exists_eq_left])))); (try (walk_at "WP"))
    rw [ul]
    refine ltake_ P3 S3 h63 (by omega) (by omega) (by omega) fun ra H4 ra0 ra1 P4 S4 C4 => ?_
    have G4 := G3.step P3 C4
    have F4 := F3.step P3 C4
    try walk_at "WP"
    refine ltake_ P4 S4 h63 (by omega) (by decide) (by decide) fun rb H5 rb0 rb1 P5 S5 C5 => ?_
    have G5 := G4.step P4 C5
    have F5 := F4.step P4 C5
    try walk_at "WP"
    refine lpick2 P5 S5 h63 (by omega) fun bw H6 P6 S6 C6 => ?_
    have G6 := G5.step P5 C6
    have F6 := F5.step P5 C6
    have C6' := ((C3.trans C4).trans C5).trans C6
    obtain ⟨ja, rfl⟩ := Int.eq_ofNat_of_zero_le ra0
    obtain ⟨sg2, hsg, esg⟩ : ∃ g : Int, (g = 0 ∨ g = 1 ∨ g = -1) ∧ (if bw = true then V.int 1 else V.int (-1)) = .int g := by
      cases bw
      · exact ⟨_, .inr (.inr rfl), rfl⟩
      · exact ⟨_, .inr (.inl rfl), rfl⟩
    rw [esg]
    try walk_at "WP"
    intro tp ntp
    have e0 : ([V.int (ja : Int), V.int rb, V.int sg2] : List V) = gTp ⟨ja, rb, sg2⟩ := rfl
    rw [e0]
    have st := same_new ntp (.tup (gTp ⟨ja, rb, sg2⟩))
    have G7 := G6.same st
    have F7 := F6.same st
    have P7 := P6.same st
    have S7 := S6.same st
    have C7 := C6'.trans st.chg
    have ht : upd H6 tp (.tup (gTp ⟨ja, rb, sg2⟩)) tp = some (.tup (gTp ⟨ja, rb, sg2⟩)) := upd_same
    generalize upd H6 tp (.tup (gTp ⟨ja, rb, sg2⟩)) = H7 at G7 F7 P7 S7 C7 ht ⊢
    try walk_at "WP"
    refine ⟨ty_list F7.dll, ?_⟩
    intro tz ntz
    have e1 : ([V.int 0, V.int 0, V.int 0] : List V) = gTp ⟨0, 0, 0⟩ := rfl
    rw [e1]
    have sz := same_new ntz (.tup (gTp ⟨0, 0, 0⟩))
    have G8 := G7.same sz
    have F8 := F7.same sz
    have P8 := P7.same sz
    have S8 := S7.same sz
    have C8 := C7.trans sz.chg
    have ht8 := sz _ _ ht
    have hz : upd H7 tz (.tup (gTp ⟨0, 0, 0⟩)) tz = some (.tup (gTp ⟨0, 0, 0⟩)) := upd_same
    generalize upd H7 tz (.tup (gTp ⟨0, 0, 0⟩)) = H8 at G8 F8 P8 S8 C8 ht8 hz ⊢
    intro lp nlp
    have s9 := same_new nlp (.lst [V.ref tp, V.ref tz])
    have G9 := G8.same s9
    have F9 := F8.same s9
    have P9 := P8.same s9
    have S9 := S8.same s9
    have C9 := C8.trans s9.chg
    have ht9 := s9 _ _ ht8
    have hz9 := s9 _ _ hz
    have hl9 : upd H8 lp (.lst [V.ref tp, V.ref tz]) lp = some (.lst [V.ref tp, V.ref tz]) := upd_same
    have lpp : lp ≠ p := P8.ne nlp
    generalize upd H8 lp (.lst [V.ref tp, V.ref tz]) = H9 at G9 F9 P9 S9 C9 ht9 hz9 hl9 ⊢
    obtain ⟨px, hpx⟩ := P9.lst
    refine ltake_ P9 S9 h63 (by omega) (by decide) (by decide) fun r5 H10 r50 r51 P10 S10 C10 => ?_
    have G10 := G9.step P9 C10
    have F10 := F9.step P9 C10
    have hl10 := C10 _ _ lpp hl9
    have ht10 := C10 _ _ (ne_of ht9 hpx (by intro z; cases z)) ht9
    have hz10 := C10 _ _ (ne_of hz9 hpx (by intro z; cases z)) hz9
    have g10 := F10.dll
    have ol := F10.hds.len
    (iterate 5 ((try (walk_at "WP")); (try (simp only [hl10, g10, Option.some.injEq, HO.tup.injEq, HO.lst.injEq, HO.dK.injEq, exists_eq_left', exists_eq_left])))); (try (walk_at "WP"))
    have hat : ∃ (y : Addr) (g : Go), atI [V.ref tp, V.ref tz] (if r5 = 0 then 1 else 0) = some (.ref y) ∧ H10 y = some (.tup (gTp g)) ∧ g.th < ins + ds.length ∧ (g.sg = 0 ∨ g.sg = 1 ∨ g.sg = -1) := by
      by_cases z : r5 = 0
      · rw [if_pos z]; exact ⟨tz, _, rfl, hz10, by show 0 < _; omega, .inl rfl⟩
      · rw [if_neg z]; exact ⟨tp, _, rfl, ht10, by show ja < _; omega, hsg⟩
    obtain ⟨y, g, hy, hyg, g1, g2⟩ := hat
    refine ⟨_, hy, lt_big (by omega), ?_⟩
    refine hN2 _ _ ⟨_, _, _, _, rfl, by simp [gl_], G10.other g10 dg (Chg.upd _), F10.snoc hyg, fun g' hg' => ?_, (P10.chg F10.dp.symm (Chg.upd _)).mono (by omega), S10.chg g10 (Chg.upd _), (C9.trans C10).two ng0 (Chg.upd _)⟩
    rcases List.mem_append.mp hg' with z | z
    · exact gk _ z
    · rw [List.mem_singleton.mp z]
      exact ⟨g1, g2⟩
  · rintro σ H4 ⟨os, gs, o4, o8, rfl, gl_, G4, F4, gk, P4, S4, C4⟩
    try walk_at "WP"
    intro x nx
    have sx := same_new nx (.tup [V.int (ins : Int), V.ref dl, V.ref gl])
    exact q x dl gl us ds os gs _ ⟨⟨upd_same, sx _ _ G4.dll, G4.hds.same sx, sx _ _ F4.dll, F4.hds.same sx⟩, dk, gk, d6, by omega, i1, i12⟩ gl_ dp gp ((P4.same sx).mono (by omega)) (S4.same sx) (C4.trans sx.chg)
theorem ok_unl (T : Txt K mg) : Cal P w K mg base 2 "_law_unlike" ["_law_pen_here", "_law_number"] (spUnl K) := by
  have B := T.bl
  have C_l_take := ok_ltake (P := P) (w := w) (base := base) T
  refine mkCal T.t_l_unlike sc_l_unlike (fun vs H Q E h => ?_) (fun f cdv A outer s H vs Q E hr h => ?_)
  · obtain ⟨p, a, ns, c, n, rfl, _⟩ := h
    rfl
  obtain ⟨p, a, ns, c_, n, rfl, hP, hS, h63, hc, n0, n12, q⟩ := h
  refine ⟨_, (pss_cons (ps_set (i := 2) sc_l_unlike.nd rfl (by first | exact Or.inl rfl | exact Or.inr rfl) (pe_ix ix_M (pe_lst (pa_cons (pe_op op_sub (pv 1) pe_int) (pa_cons (pe_op op_add (pv 1) pe_int) pa_nil))) (pe_cal C_l_take hr rfl (pa_cons (pv 0) (pa_cons pe_int pa_nil))) (fun _ _ => rfl)))
    (pss_cons (ps_set (i := 3) sc_l_unlike.nd rfl (by first | exact Or.inl rfl | exact Or.inr rfl) (pe_ix ix_M (pe_lst (pa_cons (pv 2) (pa_cons (pe_op op_add pe_int (pe_cal C_l_take hr rfl (pa_cons (pv 0) (pa_cons pe_int pa_nil)))) pa_nil))) (pe_cal C_l_take hr rfl (pa_cons (pv 0) (pa_cons pe_int pa_nil))) (fun _ _ => rfl)))
    (pss_cons (ps_if (PW.pt (pw_or (pt_cmpR op_eq (pv 3) (pv 1) (nomark _)) (pw_or1 (pt_not (pt_chain op_le op_le pe_int (pv 3) pe_int))))) (pss_one (ps_set (i := 3) sc_l_unlike.nd rfl (by first | exact Or.inl rfl | exact Or.inr rfl) (pe_op op_add pe_int (pe_callTy call_int1 rfl B.int bo_int (pa_cons (pe_cmpR op_eq (pv 1) pe_int (nomark _)) pa_nil))))) pss_nil)
    (pss_one (ps_ret (pv 3)))))), ?_⟩
  rw [show start ["_law_pen_here", "_law_number", "_law_one_off", "_law_other"] [.ref p, .int n] = [some (.ref p), some (.int n), none, none] from rfl]
  try walk_at "WP"
  refine lpick2 hP hS h63 (by omega) fun b1 H1 P1 S1 C1 => ?_
  obtain ⟨u, eu⟩ : ∃ u : Int, (if b1 = true then V.int (n - 1) else V.int (n + 1)) = .int u := by
    cases b1
    · exact ⟨_, rfl⟩
    · exact ⟨_, rfl⟩
  rw [eu]
  try walk_at "WP"
  refine ltake_ P1 S1 h63 (by omega) (by decide) (by decide) fun r H2 r0 r1 P2 S2 C2 => ?_
  try walk_at "WP"
  refine lpick2 P2 S2 h63 (by omega) fun b2 H3 P3 S3 C3 => ?_
  obtain ⟨x, ex⟩ : ∃ x : Int, (if b2 = true then V.int u else V.int (1 + r)) = .int x := by
    cases b2
    · exact ⟨_, rfl⟩
    · exact ⟨_, rfl⟩
  rw [ex]
  have fin : ∀ y : Int, 1 ≤ y → y ≤ 12 → y ≠ n → Q (.int y) H3 := fun y y0 y1 yn => by
    obtain ⟨k, rfl⟩ := Int.eq_ofNat_of_zero_le (show 0 ≤ y by omega)
    exact q k H3 (by omega) (by omega) yn (P3.mono (by omega)) S3 ((C1.trans C2).trans C3)
  have dflt : Q (.int (1 + if n = 1 then 1 else 0)) H3 := by
    by_cases z : n = 1
    · rw [if_pos z]; exact fin _ (by omega) (by omega) (by omega)
    · rw [if_neg z]; exact fin _ (by omega) (by omega) (by omega)
  try walk_at "WP"
  refine ite2 (fun z => dflt) (fun z => ?_)
  refine ite2 (fun z1 => ?_) (fun z1 => dflt)
  refine ite2 (fun z2 => dflt) (fun z2 => ?_)
  exact fin x (by omega) (by omega) z
theorem ok_over (T : Txt K mg) : Cal P w K mg base 2 "_law_over" ["_law_pen_here"] (spOver K) := by
  have B := T.bl
  have C_l_take := ok_ltake (P := P) (w := w) (base := base) T
  refine mkCal T.t_l_over sc_l_over (fun vs H Q E h => ?_) (fun f cdv A outer s H vs Q E hr h => ?_)
  · obtain ⟨p, a, ns, c, rfl, _⟩ := h
    rfl
  obtain ⟨p, a, ns, c_, rfl, hP, hS, h63, hc, q⟩ := h
  refine ⟨_, (pss_cons (ps_set (i := 1) sc_l_over.nd rfl (by first | exact Or.inl rfl | exact Or.inr rfl) (pe_op op_add pe_int (pe_cal C_l_take hr rfl (pa_cons (pv 0) (pa_cons pe_int pa_nil)))))
    (pss_one (ps_ret (pe_lst (pa_cons (pv 1) (pa_cons (pe_ix ix_M (pe_lst (pa_cons (pe_op op_sub pe_int (pv 1)) (pa_cons (pe_op op_add (pe_op op_sub pe_int (pv 1)) (pe_cal C_l_take hr rfl (pa_cons (pv 0) (pa_cons (pv 1) pa_nil)))) pa_nil))) (pe_cal C_l_take hr rfl (pa_cons (pv 0) (pa_cons pe_int pa_nil))) (fun _ _ => rfl)) pa_nil)))))), ?_⟩
  rw [show start ["_law_pen_here", "_law_one"] [.ref p] = [some (.ref p), none] from rfl]
  try walk_at "WP"
  refine ltake_ hP hS h63 (by omega) (by decide) (by decide) fun r H1 r0 r1 P1 S1 C1 => ?_
  try walk_at "WP"
  refine ltake_ P1 S1 h63 (by omega) (by omega) (by omega) fun r2 H2 r20 r21 P2 S2 C2 => ?_
  try walk_at "WP"
  refine lpick2 P2 S2 h63 (by omega) fun b2 H3 P3 S3 C3 => ?_
  obtain ⟨y, ey, y0, y1⟩ : ∃ y : Int, (if b2 = true then V.int (13 - (1 + r)) else V.int (13 - (1 + r) + r2)) = .int y ∧ 13 - (1 + r) ≤ y ∧ y ≤ 12 := by
    cases b2
    · exact ⟨_, rfl, by omega, by omega⟩
    · exact ⟨_, rfl, by omega, by omega⟩
  rw [ey]
  try walk_at "WP"
  intro l nl
  have sl := same_new nl (.lst [V.int (1 + r), V.int y])
  obtain ⟨ky, rfl⟩ := Int.eq_ofNat_of_zero_le (show 0 ≤ y by omega)
  obtain ⟨kr, rfl⟩ := Int.eq_ofNat_of_zero_le r0
  refine q l (1 + kr) ky _ (by omega) (by omega) (by omega) (by omega) ?_ (P3.ne nl) ((P3.same sl).mono (by omega)) (S3.same sl) (((C1.trans C2).trans C3).trans sl.chg)
  rw [upd_same, Int.natCast_add]
  rfl
end

section
variable {P : Program} {w : World} {K : PySem.W.Frag} {mg : Str → Option Value} {base : Heap}
theorem ok_heard (T : Txt K mg) {cst_NoJoin cst_ShiftError cst_Down cst_NoName cst_NoRow cst_NoText cst_NoWeb cst_NoWord cst_TooMany : Addr} (mg_NoJoin : mg "NoJoin" = some (.ref cst_NoJoin)) (mg_ShiftError : mg "ShiftError" = some (.ref cst_ShiftError)) (mg_Down : mg "Down" = some (.ref cst_Down)) (mg_NoName : mg "NoName" = some (.ref cst_NoName)) (mg_NoRow : mg "NoRow" = some (.ref cst_NoRow)) (mg_NoText : mg "NoText" = some (.ref cst_NoText)) (mg_NoWeb : mg "NoWeb" = some (.ref cst_NoWeb)) (mg_NoWord : mg "NoWord" = some (.ref cst_NoWord)) (mg_TooMany : mg "TooMany" = some (.ref cst_TooMany))
    (xi_NoJoin : PySem.W.excIn K cst_NoJoin [.type "ValueError", .type "Exception", .type "BaseException", .type "object"] "ValueError.__new__" = true) (xi_ShiftError : PySem.W.excIn K cst_ShiftError [.type "ValueError", .type "Exception", .type "BaseException", .type "object"] "ValueError.__new__" = true)
    (hsub : L2.subIn K cst_NoJoin cst_ShiftError = true) (hek : L2.excK K cst_NoJoin = true) (hve : PySem.W.kitOne K (.ref cst_NoJoin) (.type "ValueError") = some true)
    (hot : PySem.W.kitAny K (.ref cst_NoJoin) [.ref cst_Down, .ref cst_NoName, .ref cst_NoRow, .ref cst_NoText, .ref cst_NoWeb, .ref cst_NoWord, .ref cst_TooMany] = some false)
    (X_l_joined : CalX P w K mg base 5 "_law_joined" ["_law_word", "_law_one", "_law_other"] (spJoined cst_NoJoin)) : Cal P w K mg base 6 "_law_heard" ["_law_word", "_law_one", "_law_other"] spHeard := by
  have B := T.bl
  refine mkCal T.t_l_heard sc_l_heard (fun vs H Q E h => ?_) (fun f cdv A outer s H vs Q E hr h => ?_)
  · obtain ⟨_, _, _, _, _, _, _, _, _, _, _, _, _, _, _, _, _, rfl, _⟩ := h
    rfl
  obtain ⟨wd, a, b, d1, g1, d2, g2, i1, i2, u1, u2, s1, s2, o1, o2, t1, t2, rfl, W1, W2, qR, qN⟩ := h
  refine ⟨_, (pss_cons (ps_set (i := 3) sc_l_heard.nd rfl (by first | exact Or.inl rfl | exact Or.inr rfl) pe_non)
    (pss_cons (ps_set (i := 4) sc_l_heard.nd rfl (by first | exact Or.inl rfl | exact Or.inr rfl) (pe_lst (pa_cons (pe_tup (pa_cons (pe_ix ix_U (pv 1) pe_int (fun _ _ => rfl)) (pa_cons (pe_callTy call_list_of rfl B.list bo_list (pa_cons (pe_ix ix_U (pv 1) pe_int (fun _ _ => rfl)) pa_nil)) (pa_cons (pe_callTy call_list_of rfl B.list bo_list (pa_cons (pe_ix ix_U (pv 1) pe_int (fun _ _ => rfl)) pa_nil)) pa_nil)))) (pa_cons (pe_tup (pa_cons (pe_ix ix_U (pv 2) pe_int (fun _ _ => rfl)) (pa_cons (pe_callTy call_list_of rfl B.list bo_list (pa_cons (pe_ix ix_U (pv 2) pe_int (fun _ _ => rfl)) pa_nil)) (pa_cons (pe_callTy call_list_of rfl B.list bo_list (pa_cons (pe_ix ix_U (pv 2) pe_int (fun _ _ => rfl)) pa_nil)) pa_nil)))) pa_nil))))
    (pss_mid (ps_tryAs (B := cst_ShiftError) (psx_expr (pex_call X_l_joined hr (fun _ z => nomatch z) rfl (pa_cons (pv 0) (pa_cons (pe_ix ix_M (pv 4) pe_int (fun _ _ => rfl)) (pa_cons (pe_ix ix_M (pv 4) pe_int (fun _ _ => rfl)) pa_nil))))) xi_ShiftError (by decide +kernel) rfl mg_ShiftError sc_l_heard.nd (i := 5) rfl rfl rfl rfl rfl (fun _ => (pss_one (ps_set (i := 3) sc_l_heard.nd rfl (by first | exact Or.inl rfl | exact Or.inr rfl) (pv 5)))))
    (pss_cons (ps_if (pt_cmpR (op_neD hr) (pv 4) (pe_lst (pa_cons (pv 1) (pa_cons (pv 2) pa_nil))) (nomark _)) (pss_one (ps_ret pe_bl)) pss_nil)
    (pss_cons (ps_if (pt_cmp (pc_isN (pv 3))) (pss_one (ps_ret pe_non)) pss_nil)
    (pss_cons (ps_if (pt_val (pe_callB call_isX rfl B.isinstance bo_isinstance (pa_cons (pv 3) (pa_cons (pe_tup (pa_cons (pe_glob (v := .ref cst_Down) rfl mg_Down rfl) (pa_cons (pe_glob (v := .ref cst_NoName) rfl mg_NoName rfl) (pa_cons (pe_glob (v := .ref cst_NoRow) rfl mg_NoRow rfl) (pa_cons (pe_glob (v := .ref cst_NoText) rfl mg_NoText rfl) (pa_cons (pe_glob (v := .ref cst_NoWeb) rfl mg_NoWeb rfl) (pa_cons (pe_glob (v := .ref cst_NoWord) rfl mg_NoWord rfl) (pa_cons (pe_glob (v := .ref cst_TooMany) rfl mg_TooMany rfl) pa_nil)))))))) pa_nil)))) (pss_one (ps_ret pe_bl)) pss_nil)
    (pss_one (ps_ret (pe_and (pe_callB call_isX rfl B.isinstance bo_isinstance (pa_cons (pv 3) (pa_cons (pe_glob (v := .ref cst_NoJoin) rfl mg_NoJoin rfl) pa_nil))) (pe_one (pe_callB call_isX rfl B.isinstance bo_isinstance (pa_cons (pv 3) (pa_cons (pe_bltn (v := .ty "ValueError") rfl B.ValueError bo_ValueError rfl) pa_nil))))))))))))), ?_⟩
  rw [show start ["_law_word", "_law_one", "_law_other", "_law_caught", "_law_handed", "e"] [.str wd, .ref a, .ref b] = [some (.str wd), some (.ref a), some (.ref b), none, none, none] from rfl]
  have h1 := W1.wb.tup
  have h2 := W2.wb.tup
  (iterate 5 ((try (walk_at "WP")); (try (simp only [h1, Option.some.injEq, HO.tup.injEq, HO.lst.injEq, HO.dK.injEq, exists_eq_left', exists_eq_left])))); (try (walk_at "WP"))
  refine ⟨u1, .inl (SqL.of W1.wb.dll), fun l1 n1 => ?_⟩
  have z1 := same_new n1 (.lst u1)
  have e1 : (upd H l1 (.lst u1)) l1 = some (.lst u1) := upd_same
  generalize upd H l1 (.lst u1) = H1 at z1 e1 ⊢
  have h11 := z1 _ _ h1
  (iterate 5 ((try (walk_at "WP")); (try (simp only [h11, Option.some.injEq, HO.tup.injEq, HO.lst.injEq, HO.dK.injEq, exists_eq_left', exists_eq_left])))); (try (walk_at "WP"))
  refine ⟨o1, .inl (SqL.of (z1 _ _ W1.wb.gll)), fun l2 n2 => ?_⟩
  have z2' := same_new n2 (.lst o1)
  have e1 := z2' _ _ e1
  have e2 : (upd H1 l2 (.lst o1)) l2 = some (.lst o1) := upd_same
  have z2 := z1.trans z2'
  generalize upd H1 l2 (.lst o1) = H2 at z2 e1 e2 ⊢
  intro hw nw
  have z3' := same_new nw (.tup [V.int (i1 : Int), V.ref l1, V.ref l2])
  have e1 := z3' _ _ e1
  have e2 := z3' _ _ e2
  have e3 : (upd H2 hw (.tup [V.int (i1 : Int), V.ref l1, V.ref l2])) hw = some (.tup [V.int (i1 : Int), V.ref l1, V.ref l2]) := upd_same
  have z3 := z2.trans z3'
  generalize upd H2 hw (.tup [V.int (i1 : Int), V.ref l1, V.ref l2]) = H3 at z3 e1 e2 e3 ⊢
  have V1 : Wk H3 hw l1 l2 i1 u1 s1 o1 t1 := ⟨⟨e3, e1, W1.wb.hds.same z3, e2, W1.wb.hgs.same z3⟩, W1.dk, W1.gk, W1.dl6, W1.ol, W1.i1, W1.i12⟩
  have h23 := z3 _ _ h2
  (iterate 5 ((try (walk_at "WP")); (try (simp only [h23, Option.some.injEq, HO.tup.injEq, HO.lst.injEq, HO.dK.injEq, exists_eq_left', exists_eq_left])))); (try (walk_at "WP"))
  refine ⟨u2, .inl (SqL.of (z3 _ _ W2.wb.dll)), fun l4 n4 => ?_⟩
  have z4' := same_new n4 (.lst u2)
  have e4 : (upd H3 l4 (.lst u2)) l4 = some (.lst u2) := upd_same
  have z4 := z3.trans z4'
  have V1 := V1.same z4'
  generalize upd H3 l4 (.lst u2) = H4 at z4 e4 V1 ⊢
  have h24 := z4 _ _ h2
  (iterate 5 ((try (walk_at "WP")); (try (simp only [h24, Option.some.injEq, HO.tup.injEq, HO.lst.injEq, HO.dK.injEq, exists_eq_left', exists_eq_left])))); (try (walk_at "WP"))
  refine ⟨o2, .inl (SqL.of (z4 _ _ W2.wb.gll)), fun l5 n5 => ?_⟩
  have z5' := same_new n5 (.lst o2)
  have e4 := z5' _ _ e4
  have e5 : (upd H4 l5 (.lst o2)) l5 = some (.lst o2) := upd_same
  have z5 := z4.trans z5'
  have V1 := V1.same z5'
  generalize upd H4 l5 (.lst o2) = H5 at z5 e4 e5 V1 ⊢
  intro hx nx
  have z6' := same_new nx (.tup [V.int (i2 : Int), V.ref l4, V.ref l5])
  have e4 := z6' _ _ e4
  have e5 := z6' _ _ e5
  have e6 : (upd H5 hx (.tup [V.int (i2 : Int), V.ref l4, V.ref l5])) hx = some (.tup [V.int (i2 : Int), V.ref l4, V.ref l5]) := upd_same
  have z6 := z5.trans z6'
  have V1 := V1.same z6'
  generalize upd H5 hx (.tup [V.int (i2 : Int), V.ref l4, V.ref l5]) = H6 at z6 e4 e5 e6 V1 ⊢
  have V2 : Wk H6 hx l4 l5 i2 u2 s2 o2 t2 := ⟨⟨e6, e4, W2.wb.hds.same z6, e5, W2.wb.hgs.same z6⟩, W2.dk, W2.gk, W2.dl6, W2.ol, W2.i1, W2.i12⟩
  intro hl nl
  have z7' := same_new nl (.lst [V.ref hw, V.ref hx])
  have e7 : (upd H6 hl (.lst [V.ref hw, V.ref hx])) hl = some (.lst [V.ref hw, V.ref hx]) := upd_same
  have z7 := z6.trans z7'
  have V1 := V1.same z7'
  have V2 := V2.same z7'
  generalize upd H6 hl (.lst [V.ref hw, V.ref hx]) = H7 at z7 e7 V1 V2 ⊢
  have ol1 := W1.wb.hgs.len
  have ol2 := W2.wb.hgs.len
  refine mid_of (fun σ H' => ∃ (c : V), σ = [some (.str wd), some (.ref a), some (.ref b), some c, some (.ref hl), none] ∧ Same H7 H' ∧ ((refJ wd i1 t1.length i2 t2.length ∧ ∃ e, c = .ref e ∧ H' e = some (Exc e (.ref cst_NoJoin) none)) ∨ (¬ refJ wd i1 t1.length i2 t2.length ∧ c = .non))) (fun N hN => ?_) ?_
  · unfold tTryAs xDrop xCall
    (iterate 5 ((try (walk_at "WP")); (try (simp only [e7, Option.some.injEq, HO.tup.injEq, HO.lst.injEq, HO.dK.injEq, exists_eq_left', exists_eq_left])))); (try (walk_at "WP"))
    refine ⟨wd, hw, hx, rfl, hw, hx, l1, l2, l4, l5, i1, i2, u1, u2, s1, s2, o1, o2, rfl, V1.j, V2.j, ?_, ?_⟩
    · rw [ol1, ol2]
      intro y H8 z8
      refine ⟨_, rfl, _, _, xi_NoJoin, hsub, fun e he => ?_⟩
      have z9 := same_new he (Exc e (.ref cst_NoJoin) none)
      unfold hEnds
      try walk_at "WP"
      exact hN _ _ ⟨_, rfl, z8.trans z9, .inl ⟨y, e, rfl, upd_same⟩⟩
    · rw [ol1, ol2]
      intro y r H8 z8
      exact hN _ _ ⟨_, rfl, z8, .inr ⟨y, rfl⟩⟩
  rintro σ H8 ⟨c, rfl, z8, hc⟩
  try walk_at "WP"
  intro hm nm
  have z9 := same_new nm (.lst [V.ref a, V.ref b])
  have Z9 := (z7.trans z8).trans z9
  refine ne_ww ((z8.trans z9) _ _ e7) (V1.wb.same (z8.trans z9)) (V2.wb.same (z8.trans z9)) upd_same (W1.wb.same Z9) (W2.wb.same Z9) ?_
  have hc9 : (refJ wd i1 t1.length i2 t2.length ∧ ∃ e, c = .ref e ∧ upd H8 hm (.lst [V.ref a, V.ref b]) e = some (Exc e (.ref cst_NoJoin) none)) ∨ (¬ refJ wd i1 t1.length i2 t2.length ∧ c = .non) := by
    rcases hc with ⟨y, e, rfl, he⟩ | y
    · exact .inl ⟨y, e, rfl, z9 _ _ he⟩
    · exact .inr y
  generalize upd H8 hm (.lst [V.ref a, V.ref b]) = H9 at Z9 hc9 ⊢
  rcases hc9 with ⟨y, e, rfl, he⟩ | ⟨y, rfl⟩
  · try walk_at "WP"
    intro tp ntp
    have zt := same_new ntp (.tup [V.ref cst_Down, V.ref cst_NoName, V.ref cst_NoRow, V.ref cst_NoText, V.ref cst_NoWeb, V.ref cst_NoWord, V.ref cst_TooMany])
    refine ⟨e, cst_NoJoin, _, false, rfl, zt _ _ he, hek, .inr (.inr ⟨tp, [cst_Down, cst_NoName, cst_NoRow, cst_NoText, cst_NoWeb, cst_NoWord, cst_TooMany], rfl, upd_same, hot⟩), ?_⟩
    try walk_at "WP"
    refine ⟨e, cst_NoJoin, _, true, rfl, zt _ _ he, hek, .inl ⟨_, rfl, by unfold PySem.W.kitOne; rw [if_pos (by simp)]⟩, ?_⟩
    try walk_at "WP"
    refine ⟨e, cst_NoJoin, _, true, rfl, zt _ _ he, hek, .inr (.inl ⟨_, rfl, hve⟩), ?_⟩
    try walk_at "WP"
    exact qR y _ (Z9.trans zt)
  · try walk_at "WP"
    exact qN y _ Z9
end

section
variable {P : Program} {w : World} {K : PySem.W.Frag} {mg : Str → Option Value} {base : Heap}
theorem ok_law (T : Txt K mg) {f : Addr} {fd : FuncData} (F : Fun K "law" "law" s_law f fd) : FnOk P w K mg base CX0 20 f fd ["_law_script"] (spLaw K) := by
  have B := T.bl
  obtain ⟨cst_ShiftError, cst_NoWeb, cst_Down, cst_NoText, cst_NoJoin, cst_TooMany, cst_NoRow, cst_NoName, cst_NoWord, mg_ShiftError, mg_NoWeb, mg_Down, mg_NoText, mg_NoJoin, mg_TooMany, mg_NoRow, mg_NoName, mg_NoWord, xi_NoJoin, xi_ShiftError, hsub, hek, hve, hot⟩ := T.cls
  have C_l_pen := (ok_lpen (P := P) (w := w) (base := base) T).mono (k := 19) (by decide)
  have C_l_take := (ok_ltake (P := P) (w := w) (base := base) T).mono (k := 19) (by decide)
  have C_l_web := (ok_web41 (P := P) (w := w) (base := base) T).mono (k := 19) (by decide)
  have C_l_unlike := (ok_unl (P := P) (w := w) (base := base) T).mono (k := 19) (by decide)
  have C_l_over := (ok_over (P := P) (w := w) (base := base) T).mono (k := 19) (by decide)
  have XJ := okx_joined (P := P) (w := w) (base := base) T (okx_behind (P := P) (w := w) (base := base) T mg_NoJoin xi_NoJoin) (okx_beside (P := P) (w := w) (base := base) T mg_NoJoin xi_NoJoin) (okx_both (P := P) (w := w) (base := base) T mg_NoJoin xi_NoJoin)
  have C_l_heard := (ok_heard (P := P) (w := w) (base := base) T mg_NoJoin mg_ShiftError mg_Down mg_NoName mg_NoRow mg_NoText mg_NoWeb mg_NoWord mg_TooMany xi_NoJoin xi_ShiftError hsub hek hve hot XJ).mono (k := 19) (by decide)
  clear xi_NoJoin xi_ShiftError hsub hek hve hot XJ
  refine F.ok sc_law (fun vs H Q E h => ?_) (fun cdv A outer s H vs Q E hr h => ?_)
  · obtain ⟨a, ns, rfl, _⟩ := h
    rfl
  obtain ⟨a, ns, rfl, hS, h63, q⟩ := h
  refine ⟨_, (pss_cons (ps_set (i := 1) sc_law.nd rfl (by first | exact Or.inl rfl | exact Or.inr rfl) (pe_cal C_l_pen hr rfl (pa_cons (pv 0) pa_nil)))
    (pss_cons (ps_for PassesOwn.never rfl (pi_range1 rfl B.range (pa_cons pe_int pa_nil)) (pg_name (i := 2) sc_law.nd rfl (by first | exact Or.inl rfl | exact Or.inr rfl)) (pss_cons (ps_set (i := 3) sc_law.nd rfl (by first | exact Or.inl rfl | exact Or.inr rfl) (pe_cal C_l_take hr rfl (pa_cons (pv 1) (pa_cons pe_int pa_nil))))
    (pss_cons (ps_set (i := 4) sc_law.nd rfl (by first | exact Or.inl rfl | exact Or.inr rfl) (pe_cal C_l_web hr rfl (pa_cons (pv 1) (pa_cons (pe_op op_add pe_int (pe_cal C_l_take hr rfl (pa_cons (pv 1) (pa_cons pe_int pa_nil)))) (pa_cons (pv 3) pa_nil)))))
    (pss_cons (ps_set (i := 5) sc_law.nd rfl (by first | exact Or.inl rfl | exact Or.inr rfl) (pe_cal C_l_web hr rfl (pa_cons (pv 1) (pa_cons (pe_cal C_l_unlike hr rfl (pa_cons (pv 1) (pa_cons (pv 3) pa_nil))) (pa_cons (pe_cal C_l_take hr rfl (pa_cons (pv 1) (pa_cons pe_int pa_nil))) pa_nil)))))
    (pss_cons (ps_set (i := 6) sc_law.nd rfl (by first | exact Or.inl rfl | exact Or.inr rfl) (pe_cal C_l_web hr rfl (pa_cons (pv 1) (pa_cons (pe_callB (call_max2 rfl) rfl B.max bo_max (pa_cons pe_int (pa_cons (pv 3) pa_nil))) (pa_cons (pe_cal C_l_take hr rfl (pa_cons (pv 1) (pa_cons pe_int pa_nil))) pa_nil)))))
    (pss_cons (ps_if (PW.pt (pw_or (pt_cmpR op_notB (pe_cal C_l_heard hr rfl (pa_cons pe_str (pa_cons (pv 4) (pa_cons (pv 5) pa_nil)))) pe_bl (nomark _)) (pw_or1 (PW.pt (pw_and (pt_cmpR op_gt (pv 3) pe_int (nomark _)) (pw_and1 (pt_cmp (pc_notN (pe_cal C_l_heard hr rfl (pa_cons pe_str (pa_cons (pv 4) (pa_cons (pv 6) pa_nil)))))))))))) (pss_one (ps_ret pe_bl)) pss_nil)
    (pss_cons (ps_if (PW.pt (pw_and (pt_cmpR op_eq (pv 3) pe_int (nomark _)) (pw_and1 (pt_cmpR op_notB (pe_cal C_l_heard hr rfl (pa_cons pe_str (pa_cons (pv 4) (pa_cons (pv 6) pa_nil)))) pe_bl (nomark _))))) (pss_one (ps_ret pe_bl)) pss_nil)
    (pss_cons (ps_set (i := 7) sc_law.nd rfl (by first | exact Or.inl rfl | exact Or.inr rfl) (pe_cal C_l_web hr rfl (pa_cons (pv 1) (pa_cons (pe_cal C_l_unlike hr rfl (pa_cons (pv 1) (pa_cons (pe_ix ix_U (pv 4) pe_int (fun _ _ => rfl)) pa_nil))) (pa_cons (pe_cal C_l_take hr rfl (pa_cons (pv 1) (pa_cons (pe_op op_sub pe_int (pv 3)) pa_nil))) pa_nil)))))
    (pss_cons (ps_set (i := 8) sc_law.nd rfl (by first | exact Or.inl rfl | exact Or.inr rfl) (pe_cal C_l_web hr rfl (pa_cons (pv 1) (pa_cons (pe_ix ix_U (pv 4) pe_int (fun _ _ => rfl)) (pa_cons (pe_op op_sub pe_int (pv 3)) pa_nil)))))
    (pss_cons (ps_if (PW.pt (pw_or (pt_cmpR op_notB (pe_cal C_l_heard hr rfl (pa_cons pe_str (pa_cons (pv 4) (pa_cons (pv 7) pa_nil)))) pe_bl (nomark _)) (pw_or1 (pt_cmp (pc_notN (pe_cal C_l_heard hr rfl (pa_cons pe_str (pa_cons (pv 4) (pa_cons (pv 8) pa_nil))))))))) (pss_one (ps_ret pe_bl)) pss_nil)
    (pss_cons (ps_set (i := 9) sc_law.nd rfl (by first | exact Or.inl rfl | exact Or.inr rfl) (pe_cal C_l_over hr rfl (pa_cons (pv 1) pa_nil)))
    (pss_cons (ps_set (i := 10) sc_law.nd rfl (by first | exact Or.inl rfl | exact Or.inr rfl) (pe_cal C_l_over hr rfl (pa_cons (pv 1) pa_nil)))
    (pss_cons (ps_if (pt_cmpR op_notB (pe_cal C_l_heard hr rfl (pa_cons pe_str (pa_cons (pe_cal C_l_web hr rfl (pa_cons (pv 1) (pa_cons (pe_ix ix_M (pv 9) pe_int (fun _ _ => rfl)) (pa_cons (pe_ix ix_M (pv 10) pe_int (fun _ _ => rfl)) pa_nil)))) (pa_cons (pe_cal C_l_web hr rfl (pa_cons (pv 1) (pa_cons (pe_ix ix_M (pv 9) pe_int (fun _ _ => rfl)) (pa_cons (pe_ix ix_M (pv 10) pe_int (fun _ _ => rfl)) pa_nil)))) pa_nil)))) pe_bl (nomark _)) (pss_one (ps_ret pe_bl)) pss_nil)
    (pss_cons (ps_set (i := 11) sc_law.nd rfl (by first | exact Or.inl rfl | exact Or.inr rfl) (pe_lst (pa_cons (pe_cal C_l_web hr rfl (pa_cons (pv 1) (pa_cons (pe_ix ix_M (pv 9) pe_int (fun _ _ => rfl)) (pa_cons pe_int pa_nil)))) (pa_cons (pe_cal C_l_web hr rfl (pa_cons (pv 1) (pa_cons (pe_ix ix_M (pv 9) pe_int (fun _ _ => rfl)) (pa_cons pe_int pa_nil)))) pa_nil))))
    (pss_cons (ps_set (i := 12) sc_law.nd rfl (by first | exact Or.inl rfl | exact Or.inr rfl) (pe_lst (pa_cons (pe_cal C_l_web hr rfl (pa_cons (pv 1) (pa_cons pe_int (pa_cons (pe_ix ix_M (pv 10) pe_int (fun _ _ => rfl)) pa_nil)))) (pa_cons (pe_cal C_l_web hr rfl (pa_cons (pv 1) (pa_cons pe_int (pa_cons (pe_ix ix_M (pv 10) pe_int (fun _ _ => rfl)) pa_nil)))) pa_nil))))
    (pss_cons (ps_if (PW.pt (pw_or (pt_cmpR op_notB (pe_cal C_l_heard hr rfl (pa_cons pe_str (pa_cons (pe_ix ix_M (pv 11) pe_int (fun _ _ => rfl)) (pa_cons (pe_ix ix_M (pv 11) pe_int (fun _ _ => rfl)) pa_nil)))) pe_bl (nomark _)) (pw_or1 (pt_cmpR op_notB (pe_cal C_l_heard hr rfl (pa_cons pe_str (pa_cons (pe_ix ix_M (pv 12) pe_int (fun _ _ => rfl)) (pa_cons (pe_ix ix_M (pv 12) pe_int (fun _ _ => rfl)) pa_nil)))) pe_bl (nomark _))))) (pss_one (ps_ret pe_bl)) pss_nil)
    (pss_cons (ps_set (i := 13) sc_law.nd rfl (by first | exact Or.inl rfl | exact Or.inr rfl) (pe_cal C_l_web hr rfl (pa_cons (pv 1) (pa_cons (pe_op op_sub pe_int (pe_op op_fdivB (pe_ix ix_M (pv 9) pe_int (fun _ _ => rfl)) pe_int)) (pa_cons (pe_op op_fdivB (pe_ix ix_M (pv 10) pe_int (fun _ _ => rfl)) pe_int) pa_nil)))))
    (pss_cons (ps_set (i := 14) sc_law.nd rfl (by first | exact Or.inl rfl | exact Or.inr rfl) (pe_cal C_l_web hr rfl (pa_cons (pv 1) (pa_cons (pe_callB (call_max2 rfl) rfl B.max bo_max (pa_cons pe_int (pa_cons (pe_op op_fdivB (pe_ix ix_M (pv 9) pe_int (fun _ _ => rfl)) pe_int) pa_nil))) (pa_cons (pe_op op_sub pe_int (pe_op op_fdivB (pe_ix ix_M (pv 10) pe_int (fun _ _ => rfl)) pe_int)) pa_nil)))))
    (pss_one (ps_if (PW.pt (pw_and (pt_cmpR op_lt (pe_op op_add (pe_ix ix_U (pv 13) pe_int (fun _ _ => rfl)) (pe_ix ix_U (pv 14) pe_int (fun _ _ => rfl))) pe_int (nomark _)) (pw_and1 (pt_cmp (pc_notN (pe_cal C_l_heard hr rfl (pa_cons pe_str (pa_cons (pv 13) (pa_cons (pv 14) pa_nil))))))))) (pss_one (ps_ret pe_bl)) pss_nil))))))))))))))))))))
    (pss_one (ps_ret pe_bl)))), ?_⟩
  rw [show start ["_law_script", "_law_pen_here", "_law_turn", "_law_many", "_law_one", "_law_far", "_law_fit", "_law_other", "_law_same_ins", "_law_ins", "_law_goals", "_law_wide", "_law_thick", "_law_left", "_law_right"] [.ref a] = [some (.ref a), none, none, none, none, none, none, none, none, none, none, none, none, none, none] from rfl]
  try walk_at "WP"
  refine ⟨a, rfl, fun p H1 np s1 P1 => ?_⟩
  have S1 := hS.same s1
  try walk_at "WP"
  refine forR (fun i σ H1 => ∃ (o2 o3 o4 o5 o6 o7 o8 o9 o10 o11 o12 o13 o14 : Option V), σ = [some (V.ref a), some (V.ref p), o2, o3, o4, o5, o6, o7, o8, o9, o10, o11, o12, o13, o14] ∧ LPen H1 p a (4000 * i) ∧ Scr K H1 a ns) ⟨_, _, _, _, _, _, _, _, _, _, _, _, _, rfl, P1.mono (by omega), S1⟩ ?_ ?_
  · rintro i σ H1 N hi ⟨o2, o3, o4, o5, o6, o7, o8, o9, o10, o11, o12, o13, o14, rfl, P1, S1⟩ hN
    refine seq_inG fun R_ hR_ => ?_
    try walk_at "WP"
    refine ltake_ P1 S1 h63 (by omega) (by decide) (by decide) fun many H2 m0 m1 P2 S2 C2 => ?_
    obtain ⟨many, rfl⟩ := Int.eq_ofNat_of_zero_le m0
    (try (walk_at "WP")); (try (refine seq_out hR_ ?_)); (try (refine seq_in fun R_ hR_ => ?_)); (try (walk_at "WP"))
    refine ltake_ P2 S2 h63 (by omega) (by decide) (by decide) fun i1 H3 i10 i11 P3 S3 C3 => ?_
    obtain ⟨i1, rfl⟩ := Int.eq_ofNat_of_zero_le i10
    try walk_at "WP"
    refine webJ_ (1 + i1) many (by omega) rfl P3 S3 h63 (by omega) (by omega) (by omega) (by omega) fun x1 dl1 gl1 u1 d1 v1 t1 H4 W1 tl1 dp1 gp1 P4 S4 C4 => ?_
    (try (walk_at "WP")); (try (refine seq_out hR_ ?_)); (try (refine seq_in fun R_ hR_ => ?_)); (try (walk_at "WP"))
    refine ⟨p, a, ns, _, many, rfl, P4, S4, h63, by omega, by omega, by omega, fun i2 H5 i20 i21 i2n P5 S5 C5 => ?_⟩
    try walk_at "WP"
    refine ltake_ P5 S5 h63 (by omega) (by decide) (by decide) fun m2 H6 m20 m21 P6 S6 C6 => ?_
    obtain ⟨m2, rfl⟩ := Int.eq_ofNat_of_zero_le m20
    try walk_at "WP"
    refine webJ_ i2 m2 rfl rfl P6 S6 h63 (by omega) (by omega) (by omega) (by omega) fun x2 dl2 gl2 u2 d2 v2 t2 H7 W2 tl2 dp2 gp2 P7 S7 C7 => ?_
    have W1 := W1.lp P4 dp1 gp1 ((C5.trans C6).trans C7)
    (try (walk_at "WP")); (try (refine seq_out hR_ ?_)); (try (refine seq_in fun R_ hR_ => ?_)); (try (walk_at "WP"))
    refine ⟨_, _, ⟨rfl, rfl⟩, ?_⟩
    obtain ⟨i3, e3, i30, i31, i3m⟩ : ∃ i3 : Nat, (if ((many : Nat) : Int) > 1 then ((many : Nat) : Int) else 1) = i3 ∧ 1 ≤ i3 ∧ i3 ≤ 12 ∧ (0 < many → i3 = many) := by
      by_cases z : ((many : Nat) : Int) > 1
      · rw [if_pos z]; exact ⟨many, rfl, by omega, by omega, fun _ => rfl⟩
      · rw [if_neg z]; exact ⟨1, rfl, by omega, by omega, fun _ => by omega⟩
    rw [e3]
    refine ltake_ P7 S7 h63 (by omega) (by decide) (by decide) fun m3 H8 m30 m31 P8 S8 C8 => ?_
    obtain ⟨m3, rfl⟩ := Int.eq_ofNat_of_zero_le m30
    try walk_at "WP"
    refine webJ_ i3 m3 rfl rfl P8 S8 h63 (by omega) (by omega) (by omega) (by omega) fun x3 dl3 gl3 u3 d3 v3 t3 H9 W3 tl3 dp3 gp3 P9 S9 C9 => ?_
    have W1 := W1.lp P7 dp1 gp1 (C8.trans C9)
    have W2 := W2.lp P7 dp2 gp2 (C8.trans C9)
    (try (walk_at "WP")); (try (refine seq_out hR_ ?_)); (try (refine seq_in fun R_ hR_ => ?_)); (try (walk_at "WP"))
    refine heardT W1 W2 (ref_behind.mpr (by omega)) fun H10 s10 => ?_
    try walk_at "WP"
    refine if_rest s10 (fun z key => heardN (W1.same s10) (W3.same s10) (by rw [ref_behind]; omega) fun H11 s11 => ?_) (fun H11 s11 => ?_)
    · try walk_at "WP"
      exact key _ (s10.trans s11)
    (try (walk_at "WP")); (try (refine seq_out hR_ ?_)); (try (refine seq_in fun R_ hR_ => ?_)); (try (walk_at "WP"))
    refine if_rest s11 (fun z key => heardT (W1.same s11) (W3.same s11) (ref_behind.mpr (by omega)) fun H12 s12 => ?_) (fun H12 s12 => ?_)
    · try walk_at "WP"
      exact key _ (s11.trans s12)
    have W1 := W1.same s12
    have P12 := P9.same s12
    have S12 := S9.same s12
    clear W2 W3 s10 s11 s12
    have w1 := W1.wb.tup
    (try (walk_at "WP")); (try (refine seq_out hR_ ?_)); (try (refine seq_in fun R_ hR_ => ?_)); (iterate 5 ((try (walk_at "WP")); (try (simp only [w1, Option.some.injEq, HO.tup.injEq, HO.lst.injEq, HO.dK.injEq, exists_eq_left', exists_eq_left])))); (try (walk_at "WP"))
    refine ⟨p, a, ns, _, _, rfl, P12, S12, h63, by omega, by omega, by omega, fun i4 H13 i40 i41 i4n P13 S13 C13 => ?_⟩
    try walk_at "WP"
    refine ltake_ P13 S13 h63 (by omega) (by omega) (by omega) fun m4 H14 m40 m41 P14 S14 C14 => ?_
    obtain ⟨m4, rfl⟩ := Int.eq_ofNat_of_zero_le m40
    try walk_at "WP"
    refine webJ_ i4 m4 rfl rfl P14 S14 h63 (by omega) (by omega) (by omega) (by omega) fun x4 dl4 gl4 u4 d4 v4 t4 H15 W4 tl4 dp4 gp4 P15 S15 C15 => ?_
    have W1 := W1.lp P12 dp1 gp1 ((C13.trans C14).trans C15)
    have w1 := W1.wb.tup
    (try (walk_at "WP")); (try (refine seq_out hR_ ?_)); (try (refine seq_in fun R_ hR_ => ?_)); (iterate 5 ((try (walk_at "WP")); (try (simp only [w1, Option.some.injEq, HO.tup.injEq, HO.lst.injEq, HO.dK.injEq, exists_eq_left', exists_eq_left])))); (try (walk_at "WP"))
    refine webJ_ (1 + i1) (12 - many) rfl (by omega) P15 S15 h63 (by omega) (by omega) (by omega) (by omega) fun x5 dl5 gl5 u5 d5 v5 t5 H16 W5 tl5 dp5 gp5 P16 S16 C16 => ?_
    have W1 := W1.lp P15 dp1 gp1 C16
    have W4 := W4.lp P15 dp4 gp4 C16
    (try (walk_at "WP")); (try (refine seq_out hR_ ?_)); (try (refine seq_in fun R_ hR_ => ?_)); (try (walk_at "WP"))
    refine heardT W1 W4 (ref_both.mpr (.inl (by omega))) fun H17 s17 => ?_
    try walk_at "WP"
    refine heardN (W1.same s17) (W5.same s17) (by rw [ref_both]; omega) fun H18 s18 => ?_
    have P18 := (P16.same s17).same s18
    have S18 := (S16.same s17).same s18
    clear W1 W4 W5 s17 s18
    (try (walk_at "WP")); (try (refine seq_out hR_ ?_)); (try (refine seq_in fun R_ hR_ => ?_)); (try (walk_at "WP"))
    refine ⟨p, a, ns, _, rfl, P18, S18, h63, by omega, fun li ia ib H19 a0 a1 b1 ab hli lip P19 S19 C19 => ?_⟩
    (try (walk_at "WP")); (try (refine seq_out hR_ ?_)); (try (refine seq_in fun R_ hR_ => ?_)); (try (walk_at "WP"))
    refine ⟨p, a, ns, _, rfl, P19, S19, h63, by omega, fun lg ga gb H20 c0 c1 e1 ce hlg lgp P20 S20 C20 => ?_⟩
    have hli := C20 _ _ lip hli
    (try (walk_at "WP")); (try (refine seq_out hR_ ?_)); (try (refine seq_in fun R_ hR_ => ?_)); (iterate 5 ((try (walk_at "WP")); (try (simp only [hli, hlg, Option.some.injEq, HO.tup.injEq, HO.lst.injEq, HO.dK.injEq, exists_eq_left', exists_eq_left])))); (try (walk_at "WP"))
    refine webJ_ ia ga rfl rfl P20 S20 h63 (by omega) (by omega) (by omega) (by omega) fun y1 el1 fl1 _ _ _ q1 H21 W1 ql1 dp1 gp1 P21 S21 C21 => ?_
    have hli := C21 _ _ lip hli
    have hlg := C21 _ _ lgp hlg
    (iterate 5 ((try (walk_at "WP")); (try (simp only [hli, hlg, Option.some.injEq, HO.tup.injEq, HO.lst.injEq, HO.dK.injEq, exists_eq_left', exists_eq_left])))); (try (walk_at "WP"))
    refine webJ_ ia gb rfl rfl P21 S21 h63 (by omega) (by omega) (by omega) (by omega) fun y2 el2 fl2 _ _ _ q2 H22 W2 ql2 dp2 gp2 P22 S22 C22 => ?_
    have hli := C22 _ _ lip hli
    have hlg := C22 _ _ lgp hlg
    try walk_at "WP"
    refine heardT (W1.lp P21 dp1 gp1 C22) W2 (ref_both.mpr (.inr (by omega))) fun H23 s23 => ?_
    have hli := s23 _ _ hli
    have hlg := s23 _ _ hlg
    have P23 := P22.same s23
    have S23 := S22.same s23
    clear W1 W2 s23
    (try (walk_at "WP")); (try (refine seq_out hR_ ?_)); (try (refine seq_in fun R_ hR_ => ?_)); (iterate 5 ((try (walk_at "WP")); (try (simp only [hli, hlg, Option.some.injEq, HO.tup.injEq, HO.lst.injEq, HO.dK.injEq, exists_eq_left', exists_eq_left])))); (try (walk_at "WP"))
    refine webJ_ ia 3 rfl rfl P23 S23 h63 (by omega) (by omega) (by omega) (by omega) fun y1 el1 fl1 _ _ _ q1 H24 W1 ql1 dp1 gp1 P24 S24 C24 => ?_
    have hli := C24 _ _ lip hli
    have hlg := C24 _ _ lgp hlg
    (iterate 5 ((try (walk_at "WP")); (try (simp only [hli, hlg, Option.some.injEq, HO.tup.injEq, HO.lst.injEq, HO.dK.injEq, exists_eq_left', exists_eq_left])))); (try (walk_at "WP"))
    refine webJ_ ib 3 rfl rfl P24 S24 h63 (by omega) (by omega) (by omega) (by omega) fun y2 el2 fl2 _ _ _ q2 H25 W2 ql2 dp2 gp2 P25 S25 C25 => ?_
    have hli := C25 _ _ lip hli
    have hlg := C25 _ _ lgp hlg
    have W1 := W1.lp P24 dp1 gp1 C25
    try walk_at "WP"
    intro lw nlw
    have sw := same_new nlw (.lst [V.ref y1, V.ref y2])
    have hlw : upd H25 lw (.lst [V.ref y1, V.ref y2]) lw = some (.lst [V.ref y1, V.ref y2]) := upd_same
    have lwp : lw ≠ p := P25.ne nlw
    have hli := sw _ _ hli
    have hlg := sw _ _ hlg
    have W1 := W1.same sw
    have W2 := W2.same sw
    have P26 := P25.same sw
    have S26 := S25.same sw
    generalize upd H25 lw (.lst [V.ref y1, V.ref y2]) = H26 at hlw hli hlg W1 W2 P26 S26 ⊢
    (try (walk_at "WP")); (try (refine seq_out hR_ ?_)); (try (refine seq_in fun R_ hR_ => ?_)); (iterate 5 ((try (walk_at "WP")); (try (simp only [hli, hlg, Option.some.injEq, HO.tup.injEq, HO.lst.injEq, HO.dK.injEq, exists_eq_left', exists_eq_left])))); (try (walk_at "WP"))
    refine webJ_ 2 ga rfl rfl P26 S26 h63 (by omega) (by omega) (by omega) (by omega) fun y3 el3 fl3 _ _ _ q3 H27 W3 ql3 dp3 gp3 P27 S27 C27 => ?_
    have hli := C27 _ _ lip hli
    have hlg := C27 _ _ lgp hlg
    (iterate 5 ((try (walk_at "WP")); (try (simp only [hli, hlg, Option.some.injEq, HO.tup.injEq, HO.lst.injEq, HO.dK.injEq, exists_eq_left', exists_eq_left])))); (try (walk_at "WP"))
    refine webJ_ 3 gb rfl rfl P27 S27 h63 (by omega) (by omega) (by omega) (by omega) fun y4 el4 fl4 _ _ _ q4 H28 W4 ql4 dp4 gp4 P28 S28 C28 => ?_
    have hli := C28 _ _ lip hli
    have hlg := C28 _ _ lgp hlg
    have hlw := (C27.trans C28) _ _ lwp hlw
    have W1 := W1.lp P26 dp1 gp1 (C27.trans C28)
    have W2 := W2.lp P26 dp2 gp2 (C27.trans C28)
    have W3 := W3.lp P27 dp3 gp3 C28
    try walk_at "WP"
    intro lt nlt
    have st := same_new nlt (.lst [V.ref y3, V.ref y4])
    have hlt : upd H28 lt (.lst [V.ref y3, V.ref y4]) lt = some (.lst [V.ref y3, V.ref y4]) := upd_same
    have hli := st _ _ hli
    have hlg := st _ _ hlg
    have hlw := st _ _ hlw
    have W1 := W1.same st
    have W2 := W2.same st
    have W3 := W3.same st
    have W4 := W4.same st
    have P29 := P28.same st
    have S29 := S28.same st
    generalize upd H28 lt (.lst [V.ref y3, V.ref y4]) = H29 at hlt hlw hli hlg W1 W2 W3 W4 P29 S29 ⊢
    (try (walk_at "WP")); (try (refine seq_out hR_ ?_)); (try (refine seq_in fun R_ hR_ => ?_)); (iterate 5 ((try (walk_at "WP")); (try (simp only [hlw, hlt, Option.some.injEq, HO.tup.injEq, HO.lst.injEq, HO.dK.injEq, exists_eq_left', exists_eq_left])))); (try (walk_at "WP"))
    refine heardT W1 W2 (ref_beside.mpr (.inl (by omega))) fun H30 s30 => ?_
    have hlt30 := s30 _ _ hlt
    (iterate 5 ((try (walk_at "WP")); (try (simp only [hlt30, Option.some.injEq, HO.tup.injEq, HO.lst.injEq, HO.dK.injEq, exists_eq_left', exists_eq_left])))); (try (walk_at "WP"))
    refine heardT (W3.same s30) (W4.same s30) (ref_beside.mpr (.inr (by omega))) fun H31 s31' => ?_
    have s31 := s30.trans s31'
    have hli := s31 _ _ hli
    have hlg := s31 _ _ hlg
    have P31 := P29.same s31
    have S31 := S29.same s31
    clear W1 W2 W3 W4 s30 s31 s31'
    (try (walk_at "WP")); (try (refine seq_out hR_ ?_)); (try (refine seq_in fun R_ hR_ => ?_)); (iterate 5 ((try (walk_at "WP")); (try (simp only [hli, hlg, Option.some.injEq, HO.tup.injEq, HO.lst.injEq, HO.dK.injEq, exists_eq_left', exists_eq_left])))); (try (walk_at "WP"))
    refine ⟨divB (by decide) (by decide), divB (by decide) (by decide), ?_⟩
    refine webJ_ (12 - ia / 2) (ga / 2) (by omega) (by omega) P31 S31 h63 (by omega) (by omega) (by omega) (by omega) fun y1 el1 fl1 _ _ _ q1 H32 W1 ql1 dp1 gp1 P32 S32 C32 => ?_
    have hli := C32 _ _ lip hli
    have hlg := C32 _ _ lgp hlg
    (try (walk_at "WP")); (try (refine seq_out hR_ ?_)); (try (refine seq_in fun R_ hR_ => ?_)); (iterate 5 ((try (walk_at "WP")); (try (simp only [hli, hlg, Option.some.injEq, HO.tup.injEq, HO.lst.injEq, HO.dK.injEq, exists_eq_left', exists_eq_left])))); (try (walk_at "WP"))
    refine ⟨divB (by decide) (by decide), _, _, ⟨rfl, rfl⟩, divB (by decide) (by decide), ?_⟩
    obtain ⟨i7, e7, i70, i71, i7m⟩ : ∃ i7 : Nat, (if ((ia : Nat) : Int) / 2 > 1 then ((ia : Nat) : Int) / 2 else 1) = i7 ∧ 1 ≤ i7 ∧ i7 ≤ 12 ∧ (i7 = ia / 2 ∨ ia / 2 = 0 ∧ i7 = 1) := by
      by_cases z : ((ia : Nat) : Int) / 2 > 1
      · rw [if_pos z]; exact ⟨ia / 2, by omega, by omega, by omega, .inl rfl⟩
      · rw [if_neg z]; exact ⟨1, rfl, by omega, by omega, by omega⟩
    rw [e7]
    refine webJ_ i7 (12 - ga / 2) rfl (by omega) P32 S32 h63 (by omega) (by omega) (by omega) (by omega) fun y2 el2 fl2 _ _ _ q2 H33 W2 ql2 dp2 gp2 P33 S33 C33 => ?_
    have W1 := W1.lp P32 dp1 gp1 C33
    have w1 := W1.wb.tup
    have w2 := W2.wb.tup
    (try (walk_at "WP")); (try (refine seq_out hR_ ?_)); (try (refine seq_in fun R_ hR_ => ?_)); (iterate 5 ((try (walk_at "WP")); (try (simp only [w1, w2, Option.some.injEq, HO.tup.injEq, HO.lst.injEq, HO.dK.injEq, exists_eq_left', exists_eq_left])))); (try (walk_at "WP"))
    refine ite2 (fun z => ?_) (fun z => ?_)
    · refine heardN W1 W2 (by rw [ref_beside]; omega) fun H34 s34 => ?_
      try walk_at "WP"
      exact hN _ _ ⟨_, _, _, _, _, _, _, _, _, _, _, _, _, rfl, (P33.same s34).mono (by omega), S33.same s34⟩
    · exact hN _ _ ⟨_, _, _, _, _, _, _, _, _, _, _, _, _, rfl, P33.mono (by omega), S33⟩
  · rintro σ H1 ⟨o2, o3, o4, o5, o6, o7, o8, o9, o10, o11, o12, o13, o14, rfl, P1, S1⟩
    try walk_at "WP"
    exact q _
end

theorem all_mk {l : PySem.W.OpenLaw} {w : World} {K : PySem.W.Frag} {h : Heap} {mg : Str → Option Value} {fa : Addr} (X : K.In h) (G : h.Ns mainGlobals mg) (hfa : mg "law" = some (.ref fa))
    {f1 : Addr} {od1 an1 : Option Addr} {sl1 : Array (Option Value)} {oc1 kV1 dc1 pm1 cd1 ct1 : Value} {f2 : Addr} {od2 an2 : Option Addr} {sl2 : Array (Option Value)} {oc2 kV2 dc2 pm2 cd2 ct2 : Value} {f3 : Addr} {od3 an3 : Option Addr} {sl3 : Array (Option Value)} {oc3 kV3 dc3 pm3 cd3 ct3 : Value} {f4 : Addr} {od4 an4 : Option Addr} {sl4 : Array (Option Value)} {oc4 kV4 dc4 pm4 cd4 ct4 : Value} {f5 : Addr} {od5 an5 : Option Addr} {sl5 : Array (Option Value)} {oc5 kV5 dc5 pm5 cd5 ct5 : Value} {f6 : Addr} {od6 an6 : Option Addr} {sl6 : Array (Option Value)} {oc6 kV6 dc6 pm6 cd6 ct6 : Value} {f7 : Addr} {od7 an7 : Option Addr} {sl7 : Array (Option Value)} {oc7 kV7 dc7 pm7 cd7 ct7 : Value} {f8 : Addr} {od8 an8 : Option Addr} {sl8 : Array (Option Value)} {oc8 kV8 dc8 pm8 cd8 ct8 : Value} {f9 : Addr} {od9 an9 : Option Addr} {sl9 : Array (Option Value)} {oc9 kV9 dc9 pm9 cd9 ct9 : Value} {f10 : Addr} {od10 an10 : Option Addr} {sl10 : Array (Option Value)} {oc10 kV10 dc10 pm10 cd10 ct10 : Value} {f11 : Addr} {od11 an11 : Option Addr} {sl11 : Array (Option Value)} {oc11 kV11 dc11 pm11 cd11 ct11 : Value} {f12 : Addr} {od12 an12 : Option Addr} {sl12 : Array (Option Value)} {oc12 kV12 dc12 pm12 cd12 ct12 : Value} {f13 : Addr} {od13 an13 : Option Addr} {sl13 : Array (Option Value)} {oc13 kV13 dc13 pm13 cd13 ct13 : Value} {f14 : Addr} {od14 an14 : Option Addr} {sl14 : Array (Option Value)} {oc14 kV14 dc14 pm14 cd14 ct14 : Value} {f15 : Addr} {od15 an15 : Option Addr} {sl15 : Array (Option Value)} {oc15 kV15 dc15 pm15 cd15 ct15 : Value} {f16 : Addr} {od16 an16 : Option Addr} {sl16 : Array (Option Value)} {oc16 kV16 dc16 pm16 cd16 ct16 : Value} {f17 : Addr} {od17 an17 : Option Addr} {sl17 : Array (Option Value)} {oc17 kV17 dc17 pm17 cd17 ct17 : Value} {f18 : Addr} {od18 an18 : Option Addr} {sl18 : Array (Option Value)} {oc18 kV18 dc18 pm18 cd18 ct18 : Value} {f19 : Addr} {od19 an19 : Option Addr} {sl19 : Array (Option Value)} {oc19 kV19 dc19 pm19 cd19 ct19 : Value} {f20 : Addr} {od20 an20 : Option Addr} {sl20 : Array (Option Value)} {oc20 kV20 dc20 pm20 cd20 ct20 : Value} {f21 : Addr} {od21 an21 : Option Addr} {sl21 : Array (Option Value)} {oc21 kV21 dc21 pm21 cd21 ct21 : Value} {f22 : Addr} {od22 an22 : Option Addr} {sl22 : Array (Option Value)} {oc22 kV22 dc22 pm22 cd22 ct22 : Value} {fc1 : Addr} {oe1 : Option Addr} {sm1 : Array (Option Value)} {nc1 : Nat} {ta1 tb1 td1 : Tok} {ti1 : Tok} {ti2 : Tok} {cst_ShiftError cst_NoWeb cst_Down cst_NoText cst_NoJoin cst_TooMany cst_NoRow cst_NoName cst_NoWord : Addr}
    (a1 : PySem.W.nsIn K mainGlobals "second_sign" = some (some (.ref f1))) (l1 : K.lookup f1 = some ⟨oc1, od1, .func (PySem.W.fnOf "second_sign" "second_sign" (defArgs s_second_sign) (defBody s_second_sign) (defScope s_second_sign) .none kV1 dc1 pm1 an1 cd1 ct1), sl1⟩) (c1 : PySem.W.codeIn K cd1 "second_sign" = true) (k1 : PySem.W.keepIn K (.ref f1) = true)
    (a2 : PySem.W.nsIn K mainGlobals "thing_count" = some (some (.ref f2))) (l2 : K.lookup f2 = some ⟨oc2, od2, .func (PySem.W.fnOf "thing_count" "thing_count" (defArgs s_thing_count) (defBody s_thing_count) (defScope s_thing_count) .none kV2 dc2 pm2 an2 cd2 ct2), sl2⟩) (c2 : PySem.W.codeIn K cd2 "thing_count" = true) (k2 : PySem.W.keepIn K (.ref f2) = true)
    (a3 : PySem.W.nsIn K mainGlobals "parts_of" = some (some (.ref f3))) (l3 : K.lookup f3 = some ⟨oc3, od3, .func (PySem.W.fnOf "parts_of" "parts_of" (defArgs s_parts_of) (defBody s_parts_of) (defScope s_parts_of) .none kV3 dc3 pm3 an3 cd3 ct3), sl3⟩) (c3 : PySem.W.codeIn K cd3 "parts_of" = true) (k3 : PySem.W.keepIn K (.ref f3) = true)
    (a4 : PySem.W.nsIn K mainGlobals "moved" = some (some (.ref f4))) (l4 : K.lookup f4 = some ⟨oc4, od4, .func (PySem.W.fnOf "moved" "moved" (defArgs s_moved) (defBody s_moved) (defScope s_moved) .none kV4 dc4 pm4 an4 cd4 ct4), sl4⟩) (c4 : PySem.W.codeIn K cd4 "moved" = true) (k4 : PySem.W.keepIn K (.ref f4) = true)
    (a5 : PySem.W.nsIn K mainGlobals "deed_of" = some (some (.ref f5))) (l5 : K.lookup f5 = some ⟨oc5, od5, .func (PySem.W.fnOf "deed_of" "deed_of" (defArgs s_deed_of) (defBody s_deed_of) (defScope s_deed_of) .none kV5 dc5 pm5 an5 cd5 ct5), sl5⟩) (c5 : PySem.W.codeIn K cd5 "deed_of" = true) (k5 : PySem.W.keepIn K (.ref f5) = true)
    (a6 : PySem.W.nsIn K mainGlobals "sign_of" = some (some (.ref f6))) (l6 : K.lookup f6 = some ⟨oc6, od6, .func (PySem.W.fnOf "sign_of" "sign_of" (defArgs s_sign_of) (defBody s_sign_of) (defScope s_sign_of) .none kV6 dc6 pm6 an6 cd6 ct6), sl6⟩) (c6 : PySem.W.codeIn K cd6 "sign_of" = true) (k6 : PySem.W.keepIn K (.ref f6) = true)
    (a7 : PySem.W.nsIn K mainGlobals "add_sum" = some (some (.ref f7))) (l7 : K.lookup f7 = some ⟨oc7, od7, .func (PySem.W.fnOf "add_sum" "add_sum" (defArgs s_add_sum) (defBody s_add_sum) (defScope s_add_sum) .none kV7 dc7 pm7 an7 cd7 ct7), sl7⟩) (c7 : PySem.W.codeIn K cd7 "add_sum" = true) (k7 : PySem.W.keepIn K (.ref f7) = true)
    (a8 : PySem.W.nsIn K mainGlobals "behind" = some (some (.ref f8))) (l8 : K.lookup f8 = some ⟨oc8, od8, .func (PySem.W.fnOf "behind" "behind" (defArgs s_behind) (defBody s_behind) (defScope s_behind) .none kV8 dc8 pm8 an8 cd8 ct8), sl8⟩) (c8 : PySem.W.codeIn K cd8 "behind" = true) (k8 : PySem.W.keepIn K (.ref f8) = true)
    (a9 : PySem.W.nsIn K mainGlobals "moved_parts" = some (some (.ref f9))) (l9 : K.lookup f9 = some ⟨oc9, od9, .func (PySem.W.fnOf "moved_parts" "moved_parts" (defArgs s_moved_parts) (defBody s_moved_parts) (defScope s_moved_parts) .none kV9 dc9 pm9 an9 cd9 ct9), sl9⟩) (c9 : PySem.W.codeIn K cd9 "moved_parts" = true) (k9 : PySem.W.keepIn K (.ref f9) = true)
    (a10 : PySem.W.nsIn K mainGlobals "beside" = some (some (.ref f10))) (l10 : K.lookup f10 = some ⟨oc10, od10, .func (PySem.W.fnOf "beside" "beside" (defArgs s_beside) (defBody s_beside) (defScope s_beside) .none kV10 dc10 pm10 an10 cd10 ct10), sl10⟩) (c10 : PySem.W.codeIn K cd10 "beside" = true) (k10 : PySem.W.keepIn K (.ref f10) = true)
    (a11 : PySem.W.nsIn K mainGlobals "both" = some (some (.ref f11))) (l11 : K.lookup f11 = some ⟨oc11, od11, .func (PySem.W.fnOf "both" "both" (defArgs s_both) (defBody s_both) (defScope s_both) .none kV11 dc11 pm11 an11 cd11 ct11), sl11⟩) (c11 : PySem.W.codeIn K cd11 "both" = true) (k11 : PySem.W.keepIn K (.ref f11) = true)
    (a12 : PySem.W.nsIn K mainGlobals "deed_things" = some (some (.ref f12))) (l12 : K.lookup f12 = some ⟨oc12, od12, .func (PySem.W.fnOf "deed_things" "deed_things" (defArgs s_deed_things) (defBody s_deed_things) (defScope s_deed_things) .none kV12 dc12 pm12 an12 cd12 ct12), sl12⟩) (c12 : PySem.W.codeIn K cd12 "deed_things" = true) (k12 : PySem.W.keepIn K (.ref f12) = true)
    (a13 : PySem.W.nsIn K mainGlobals "renumbered" = some (some (.ref f13))) (l13 : K.lookup f13 = some ⟨oc13, od13, .func (PySem.W.fnOf "renumbered" "renumbered" (defArgs s_renumbered) (defBody s_renumbered) (defScope s_renumbered) .none kV13 dc13 pm13 an13 cd13 ct13), sl13⟩) (c13 : PySem.W.codeIn K cd13 "renumbered" = true) (k13 : PySem.W.keepIn K (.ref f13) = true)
    (a14 : PySem.W.nsIn K mainGlobals "put_together" = some (some (.ref f14))) (l14 : K.lookup f14 = some ⟨oc14, od14, .func (PySem.W.fnOf "put_together" "put_together" (defArgs s_put_together) (defBody s_put_together) (defScope s_put_together) .none kV14 dc14 pm14 an14 cd14 ct14), sl14⟩) (c14 : PySem.W.codeIn K cd14 "put_together" = true) (k14 : PySem.W.keepIn K (.ref f14) = true)
    (a15 : PySem.W.nsIn K mainGlobals "_law_pen" = some (some (.ref f15))) (l15 : K.lookup f15 = some ⟨oc15, od15, .func (PySem.W.fnOf "_law_pen" "_law_pen" (defArgs s_l_pen) (defBody s_l_pen) (defScope s_l_pen) .none kV15 dc15 pm15 an15 cd15 ct15), sl15⟩) (c15 : PySem.W.codeIn K cd15 "_law_pen" = true) (k15 : PySem.W.keepIn K (.ref f15) = true)
    (a16 : PySem.W.nsIn K mainGlobals "_law_take" = some (some (.ref f16))) (l16 : K.lookup f16 = some ⟨oc16, od16, .func (PySem.W.fnOf "_law_take" "_law_take" (defArgs s_l_take) (defBody s_l_take) (defScope s_l_take) .none kV16 dc16 pm16 an16 cd16 ct16), sl16⟩) (c16 : PySem.W.codeIn K cd16 "_law_take" = true) (k16 : PySem.W.keepIn K (.ref f16) = true)
    (a17 : PySem.W.nsIn K mainGlobals "_law_web" = some (some (.ref f17))) (l17 : K.lookup f17 = some ⟨oc17, od17, .func (PySem.W.fnOf "_law_web" "_law_web" (defArgs s_l_web) (defBody s_l_web) (defScope s_l_web) .none kV17 dc17 pm17 an17 cd17 ct17), sl17⟩) (c17 : PySem.W.codeIn K cd17 "_law_web" = true) (k17 : PySem.W.keepIn K (.ref f17) = true)
    (a18 : PySem.W.nsIn K mainGlobals "_law_joined" = some (some (.ref f18))) (l18 : K.lookup f18 = some ⟨oc18, od18, .func (PySem.W.fnOf "_law_joined" "_law_joined" (defArgs s_l_joined) (defBody s_l_joined) (defScope s_l_joined) .none kV18 dc18 pm18 an18 cd18 ct18), sl18⟩) (c18 : PySem.W.codeIn K cd18 "_law_joined" = true) (k18 : PySem.W.keepIn K (.ref f18) = true)
    (a19 : PySem.W.nsIn K mainGlobals "_law_heard" = some (some (.ref f19))) (l19 : K.lookup f19 = some ⟨oc19, od19, .func (PySem.W.fnOf "_law_heard" "_law_heard" (defArgs s_l_heard) (defBody s_l_heard) (defScope s_l_heard) .none kV19 dc19 pm19 an19 cd19 ct19), sl19⟩) (c19 : PySem.W.codeIn K cd19 "_law_heard" = true) (k19 : PySem.W.keepIn K (.ref f19) = true)
    (a20 : PySem.W.nsIn K mainGlobals "_law_unlike" = some (some (.ref f20))) (l20 : K.lookup f20 = some ⟨oc20, od20, .func (PySem.W.fnOf "_law_unlike" "_law_unlike" (defArgs s_l_unlike) (defBody s_l_unlike) (defScope s_l_unlike) .none kV20 dc20 pm20 an20 cd20 ct20), sl20⟩) (c20 : PySem.W.codeIn K cd20 "_law_unlike" = true) (k20 : PySem.W.keepIn K (.ref f20) = true)
    (a21 : PySem.W.nsIn K mainGlobals "_law_over" = some (some (.ref f21))) (l21 : K.lookup f21 = some ⟨oc21, od21, .func (PySem.W.fnOf "_law_over" "_law_over" (defArgs s_l_over) (defBody s_l_over) (defScope s_l_over) .none kV21 dc21 pm21 an21 cd21 ct21), sl21⟩) (c21 : PySem.W.codeIn K cd21 "_law_over" = true) (k21 : PySem.W.keepIn K (.ref f21) = true)
    (a22 : PySem.W.nsIn K mainGlobals "law" = some (some (.ref f22))) (l22 : K.lookup f22 = some ⟨oc22, od22, .func (PySem.W.fnOf "law" "law" (defArgs s_law) (defBody s_law) (defScope s_law) .none kV22 dc22 pm22 an22 cd22 ct22), sl22⟩) (c22 : PySem.W.codeIn K cd22 "law" = true) (k22 : PySem.W.keepIn K (.ref f22) = true)
    (ac1 : PySem.W.nsIn K mainGlobals "NO_OUT" = some (some (.ref fc1))) (lc1 : K.lookup fc1 = some ⟨.type "tuple", oe1, .seq #[.int 0 ta1, .int 0 tb1, .int 0 td1] nc1, sm1⟩)
    (ai1 : PySem.W.nsIn K mainGlobals "MOST_INS" = some (some (.int 12 ti1)))
    (ai2 : PySem.W.nsIn K mainGlobals "MOST_OUTS" = some (some (.int 12 ti2)))
    (ak1 : PySem.W.nsIn K mainGlobals "ShiftError" = some (some (.ref cst_ShiftError)))
    (ak2 : PySem.W.nsIn K mainGlobals "NoWeb" = some (some (.ref cst_NoWeb)))
    (ak3 : PySem.W.nsIn K mainGlobals "Down" = some (some (.ref cst_Down)))
    (ak4 : PySem.W.nsIn K mainGlobals "NoText" = some (some (.ref cst_NoText)))
    (ak5 : PySem.W.nsIn K mainGlobals "NoJoin" = some (some (.ref cst_NoJoin)))
    (ak6 : PySem.W.nsIn K mainGlobals "TooMany" = some (some (.ref cst_TooMany)))
    (ak7 : PySem.W.nsIn K mainGlobals "NoRow" = some (some (.ref cst_NoRow)))
    (ak8 : PySem.W.nsIn K mainGlobals "NoName" = some (some (.ref cst_NoName)))
    (ak9 : PySem.W.nsIn K mainGlobals "NoWord" = some (some (.ref cst_NoWord)))
    (fk1 : PySem.W.excIn K cst_NoJoin [.type "ValueError", .type "Exception", .type "BaseException", .type "object"] "ValueError.__new__" = true)
    (fk2 : PySem.W.excIn K cst_ShiftError [.type "ValueError", .type "Exception", .type "BaseException", .type "object"] "ValueError.__new__" = true)
    (fk3 : L2.subIn K cst_NoJoin cst_ShiftError = true)
    (fk4 : L2.excK K cst_NoJoin = true)
    (fk5 : PySem.W.kitOne K (.ref cst_NoJoin) (.type "ValueError") = some true)
    (fk6 : PySem.W.kitAny K (.ref cst_NoJoin) [.ref cst_Down, .ref cst_NoName, .ref cst_NoRow, .ref cst_NoText, .ref cst_NoWeb, .ref cst_NoWord, .ref cst_TooMany] = some false)
    (z1 : PySem.W.nsIn K mainGlobals "ValueError" = some none)
    (z2 : PySem.W.nsIn K mainGlobals "abs" = some none)
    (z3 : PySem.W.nsIn K mainGlobals "int" = some none)
    (z4 : PySem.W.nsIn K mainGlobals "isinstance" = some none)
    (z5 : PySem.W.nsIn K mainGlobals "len" = some none)
    (z6 : PySem.W.nsIn K mainGlobals "list" = some none)
    (z7 : PySem.W.nsIn K mainGlobals "max" = some none)
    (z8 : PySem.W.nsIn K mainGlobals "range" = some none)
    : ∃ fd : FuncData, (∀ (s : Shared) (v : Value), BindsTo s fd ⟨[v], []⟩ [("_law_script", v)]) ∧ ∀ base : Heap, K.In base → base.Ns mainGlobals mg → FnOk l.prog w K mg base CX0 20 fa fd ["_law_script"] (spLaw K) := by
  have e := hfa.symm.trans (PySem.W.mg_of X G a22)
  cases e
  have F1 := fun_mk (st := s_second_sign) l1 c1 k1
  have b1 := F1.binds (ps := ["deed"]) fun _ _ _ _ _ _ us hl => match us, hl with | [_], _ => rfl
  have F2 := fun_mk (st := s_thing_count) l2 c2 k2
  have b2 := F2.binds (ps := ["web"]) fun _ _ _ _ _ _ us hl => match us, hl with | [_], _ => rfl
  have F3 := fun_mk (st := s_parts_of) l3 c3 k3
  have b3 := F3.binds (ps := ["deed"]) fun _ _ _ _ _ _ us hl => match us, hl with | [_], _ => rfl
  have F4 := fun_mk (st := s_moved) l4 c4 k4
  have b4 := F4.binds (ps := ["part", "shift", "sign"]) fun _ _ _ _ _ _ us hl => match us, hl with | [_, _, _], _ => rfl
  have F5 := fun_mk (st := s_deed_of) l5 c5 k5
  have b5 := F5.binds (ps := ["one", "other"]) fun _ _ _ _ _ _ us hl => match us, hl with | [_, _], _ => rfl
  have F6 := fun_mk (st := s_sign_of) l6 c6 k6
  have b6 := F6.binds (ps := ["one", "other"]) fun _ _ _ _ _ _ us hl => match us, hl with | [_, _], _ => rfl
  have F7 := fun_mk (st := s_add_sum) l7 c7 k7
  have b7 := F7.binds (ps := ["ins", "deeds", "one", "other"]) fun _ _ _ _ _ _ us hl => match us, hl with | [_, _, _, _], _ => rfl
  have F8 := fun_mk (st := s_behind) l8 c8 k8
  have b8 := F8.binds (ps := ["one", "other"]) fun _ _ _ _ _ _ us hl => match us, hl with | [_, _], _ => rfl
  have F9 := fun_mk (st := s_moved_parts) l9 c9 k9
  have b9 := F9.binds (ps := ["parts", "stands"]) fun _ _ _ _ _ _ us hl => match us, hl with | [_, _], _ => rfl
  have F10 := fun_mk (st := s_beside) l10 c10 k10
  have b10 := F10.binds (ps := ["one", "other"]) fun _ _ _ _ _ _ us hl => match us, hl with | [_, _], _ => rfl
  have F11 := fun_mk (st := s_both) l11 c11 k11
  have b11 := F11.binds (ps := ["one", "other"]) fun _ _ _ _ _ _ us hl => match us, hl with | [_, _], _ => rfl
  have F12 := fun_mk (st := s_deed_things) l12 c12 k12
  have b12 := F12.binds (ps := ["start", "web"]) fun _ _ _ _ _ _ us hl => match us, hl with | [_, _], _ => rfl
  have F13 := fun_mk (st := s_renumbered) l13 c13 k13
  have b13 := F13.binds (ps := ["web", "things"]) fun _ _ _ _ _ _ us hl => match us, hl with | [_, _], _ => rfl
  have F14 := fun_mk (st := s_put_together) l14 c14 k14
  have b14 := F14.binds (ps := ["ins", "one", "other"]) fun _ _ _ _ _ _ us hl => match us, hl with | [_, _, _], _ => rfl
  have F15 := fun_mk (st := s_l_pen) l15 c15 k15
  have b15 := F15.binds (ps := ["_law_script"]) fun _ _ _ _ _ _ us hl => match us, hl with | [_], _ => rfl
  have F16 := fun_mk (st := s_l_take) l16 c16 k16
  have b16 := F16.binds (ps := ["_law_pen_here", "_law_many"]) fun _ _ _ _ _ _ us hl => match us, hl with | [_, _], _ => rfl
  have F17 := fun_mk (st := s_l_web) l17 c17 k17
  have b17 := F17.binds (ps := ["_law_pen_here", "_law_ins", "_law_many"]) fun _ _ _ _ _ _ us hl => match us, hl with | [_, _, _], _ => rfl
  have F18 := fun_mk (st := s_l_joined) l18 c18 k18
  have b18 := F18.binds (ps := ["_law_word", "_law_one", "_law_other"]) fun _ _ _ _ _ _ us hl => match us, hl with | [_, _, _], _ => rfl
  have F19 := fun_mk (st := s_l_heard) l19 c19 k19
  have b19 := F19.binds (ps := ["_law_word", "_law_one", "_law_other"]) fun _ _ _ _ _ _ us hl => match us, hl with | [_, _, _], _ => rfl
  have F20 := fun_mk (st := s_l_unlike) l20 c20 k20
  have b20 := F20.binds (ps := ["_law_pen_here", "_law_number"]) fun _ _ _ _ _ _ us hl => match us, hl with | [_, _], _ => rfl
  have F21 := fun_mk (st := s_l_over) l21 c21 k21
  have b21 := F21.binds (ps := ["_law_pen_here"]) fun _ _ _ _ _ _ us hl => match us, hl with | [_], _ => rfl
  have F22 := fun_mk (st := s_law) l22 c22 k22
  have b22 := F22.binds (ps := ["_law_script"]) fun _ _ _ _ _ _ us hl => match us, hl with | [_], _ => rfl
  have T : Txt K mg := ⟨⟨PySem.W.mg_none_of X G z1, PySem.W.mg_none_of X G z2, PySem.W.mg_none_of X G z3, PySem.W.mg_none_of X G z4, PySem.W.mg_none_of X G z5, PySem.W.mg_none_of X G z6, PySem.W.mg_none_of X G z7, PySem.W.mg_none_of X G z8⟩, ⟨_, _, F1, PySem.W.mg_of X G a1, b1⟩, ⟨_, _, F2, PySem.W.mg_of X G a2, b2⟩, ⟨_, _, F3, PySem.W.mg_of X G a3, b3⟩, ⟨_, _, F4, PySem.W.mg_of X G a4, b4⟩, ⟨_, _, F5, PySem.W.mg_of X G a5, b5⟩, ⟨_, _, F6, PySem.W.mg_of X G a6, b6⟩, ⟨_, _, F7, PySem.W.mg_of X G a7, b7⟩, ⟨_, _, F8, PySem.W.mg_of X G a8, b8⟩, ⟨_, _, F9, PySem.W.mg_of X G a9, b9⟩, ⟨_, _, F10, PySem.W.mg_of X G a10, b10⟩, ⟨_, _, F11, PySem.W.mg_of X G a11, b11⟩, ⟨_, _, F12, PySem.W.mg_of X G a12, b12⟩, ⟨_, _, F13, PySem.W.mg_of X G a13, b13⟩, ⟨_, _, F14, PySem.W.mg_of X G a14, b14⟩, ⟨_, _, F15, PySem.W.mg_of X G a15, b15⟩, ⟨_, _, F16, PySem.W.mg_of X G a16, b16⟩, ⟨_, _, F17, PySem.W.mg_of X G a17, b17⟩, ⟨_, _, F18, PySem.W.mg_of X G a18, b18⟩, ⟨_, _, F19, PySem.W.mg_of X G a19, b19⟩, ⟨_, _, F20, PySem.W.mg_of X G a20, b20⟩, ⟨_, _, F21, PySem.W.mg_of X G a21, b21⟩, ⟨_, _, F22, PySem.W.mg_of X G a22, b22⟩, ⟨fc1, PySem.W.mg_of X G ac1, _, _, _, lc1, rfl, rfl, le_size (by show 3 ≤ 1000; decide), .cons ⟨_, rfl⟩ (.cons ⟨_, rfl⟩ (.cons ⟨_, rfl⟩ .nil))⟩, ⟨ti1, PySem.W.mg_of X G ai1⟩, ⟨ti2, PySem.W.mg_of X G ai2⟩, ⟨cst_ShiftError, cst_NoWeb, cst_Down, cst_NoText, cst_NoJoin, cst_TooMany, cst_NoRow, cst_NoName, cst_NoWord, PySem.W.mg_of X G ak1, PySem.W.mg_of X G ak2, PySem.W.mg_of X G ak3, PySem.W.mg_of X G ak4, PySem.W.mg_of X G ak5, PySem.W.mg_of X G ak6, PySem.W.mg_of X G ak7, PySem.W.mg_of X G ak8, PySem.W.mg_of X G ak9, fk1, fk2, fk3, fk4, fk5, fk6⟩⟩
  refine ⟨PySem.W.fnOf "law" "law" (defArgs s_law) (defBody s_law) (defScope s_law) .none kV22 dc22 pm22 an22 cd22 ct22, fun s v => .of_eq rfl, fun base _ _ => ?_⟩
  exact ok_law T F22
theorem walk {l : PySem.W.OpenLaw} {q : Program} {loose : List Str} {XP : (Str → Option Value) → Heap → Prop} {YP : World → Heap → Prop} {d : DefRec} {K : Params → PySem.W.Frag} (hn : l.most = some 63) (hdf : d.params.defaults = [])
    (hY : ∀ (w : World) (h : Heap), YP w h → (K w.params).In h)
    (F : ∀ (w : World) (mg : Str → Option Value) (fa : Addr) (h : Heap), (K w.params).In h → h.Ns mainGlobals mg → mg d.name = some (.ref fa) →
      ∃ fd : FuncData, (∀ (s : Shared) (u : Value), BindsTo s fd ⟨[u], []⟩ [("_law_script", u)]) ∧ ∀ base : Heap, (K w.params).In base → base.Ns mainGlobals mg → FnOk l.prog w (K w.params) mg base CX0 20 fa fd ["_law_script"] (spLaw (K w.params))) :
    PySem.W.WalkO q loose XP YP l.row.toRowW d [] (fun f vs => PySem.call f vs) :=
  L2.walk_of (n := 63) (k := 20) (x := "_law_script") (CX := fun _ => CX0) (sp := fun w => spLaw (K w.params)) hn (by decide) hdf ⟨rfl, by decide, by decide⟩ hY F (fun _ _ a ns hl hO hS => ⟨a, ns, rfl, scr_of hO hS, hl, fun _ => rfl⟩) fun _ _ _ _ _ z => z
end Law
open PySem PySem.W PyProof.Rows
set_option maxRecDepth 100000 in
set_option maxHeartbeats 0 in
theorem PySem.Challenge.cw_shiftsums_k41_joins_refused_holds : PySem.Challenge.rw_shiftsums_k41_joins_refused.Holds := by
  w_on; o_law; k_head; (case hw => w_witness2)
  k_fill
  refine Law.walk (l := PySem.Challenge.rw_shiftsums_k41_joins_refused) rfl rfl (fun w h Y => PySem.W.kIn_of Y) ?F
  case F =>
    intro w mg fa h KX G hmg
    refine' Law.all_mk KX G hmg ?a1 ?l1 ?c1 ?k1 ?a2 ?l2 ?c2 ?k2 ?a3 ?l3 ?c3 ?k3 ?a4 ?l4 ?c4 ?k4 ?a5 ?l5 ?c5 ?k5 ?a6 ?l6 ?c6 ?k6 ?a7 ?l7 ?c7 ?k7 ?a8 ?l8 ?c8 ?k8 ?a9 ?l9 ?c9 ?k9 ?a10 ?l10 ?c10 ?k10 ?a11 ?l11 ?c11 ?k11 ?a12 ?l12 ?c12 ?k12 ?a13 ?l13 ?c13 ?k13 ?a14 ?l14 ?c14 ?k14 ?a15 ?l15 ?c15 ?k15 ?a16 ?l16 ?c16 ?k16 ?a17 ?l17 ?c17 ?k17 ?a18 ?l18 ?c18 ?k18 ?a19 ?l19 ?c19 ?k19 ?a20 ?l20 ?c20 ?k20 ?a21 ?l21 ?c21 ?k21 ?a22 ?l22 ?c22 ?k22 ?ac1 ?lc1 ?ai1 ?ai2 ?ak1 ?ak2 ?ak3 ?ak4 ?ak5 ?ak6 ?ak7 ?ak8 ?ak9 ?fk1 ?fk2 ?fk3 ?fk4 ?fk5 ?fk6 ?z1 ?z2 ?z3 ?z4 ?z5 ?z6 ?z7 ?z8
    (case a1 => k_is); (case l1 => k_is); (case c1 => k_is); (case k1 => k_is)
    (case a2 => k_is); (case l2 => k_is); (case c2 => k_is); (case k2 => k_is)
    (case a3 => k_is); (case l3 => k_is); (case c3 => k_is); (case k3 => k_is)
    (case a4 => k_is); (case l4 => k_is); (case c4 => k_is); (case k4 => k_is)
    (case a5 => k_is); (case l5 => k_is); (case c5 => k_is); (case k5 => k_is)
    (case a6 => k_is); (case l6 => k_is); (case c6 => k_is); (case k6 => k_is)
    (case a7 => k_is); (case l7 => k_is); (case c7 => k_is); (case k7 => k_is)
    (case a8 => k_is); (case l8 => k_is); (case c8 => k_is); (case k8 => k_is)
    (case a9 => k_is); (case l9 => k_is); (case c9 => k_is); (case k9 => k_is)
    (case a10 => k_is); (case l10 => k_is); (case c10 => k_is); (case k10 => k_is)
    (case a11 => k_is); (case l11 => k_is); (case c11 => k_is); (case k11 => k_is)
    (case a12 => k_is); (case l12 => k_is); (case c12 => k_is); (case k12 => k_is)
    (case a13 => k_is); (case l13 => k_is); (case c13 => k_is); (case k13 => k_is)
    (case a14 => k_is); (case l14 => k_is); (case c14 => k_is); (case k14 => k_is)
    (case a15 => k_is); (case l15 => k_is); (case c15 => k_is); (case k15 => k_is)
    (case a16 => k_is); (case l16 => k_is); (case c16 => k_is); (case k16 => k_is)
    (case a17 => k_is); (case l17 => k_is); (case c17 => k_is); (case k17 => k_is)
    (case a18 => k_is); (case l18 => k_is); (case c18 => k_is); (case k18 => k_is)
    (case a19 => k_is); (case l19 => k_is); (case c19 => k_is); (case k19 => k_is)
    (case a20 => k_is); (case l20 => k_is); (case c20 => k_is); (case k20 => k_is)
    (case a21 => k_is); (case l21 => k_is); (case c21 => k_is); (case k21 => k_is)
    (case a22 => k_is); (case l22 => k_is); (case c22 => k_is); (case k22 => k_is)
    (case ac1 => k_is); (case lc1 => k_is); (case ai1 => k_is); (case ai2 => k_is)
    (case ak1 => k_is); (case ak2 => k_is); (case ak3 => k_is); (case ak4 => k_is)
    (case ak5 => k_is); (case ak6 => k_is); (case ak7 => k_is); (case ak8 => k_is)
    (case ak9 => k_is); (case fk1 => first | kernel_rfl | k_exc); (case fk2 => first | kernel_rfl | k_exc); (case fk3 => first | kernel_rfl | k_exc)
    (case fk4 => first | kernel_rfl | k_exc); (case fk5 => first | kernel_rfl | k_exc); (case fk6 => first | kernel_rfl | k_exc); (case z1 => k_is)
    (case z2 => k_is); (case z3 => k_is); (case z4 => k_is); (case z5 => k_is)
    (case z6 => k_is); (case z7 => k_is); (case z8 => k_is)
end
