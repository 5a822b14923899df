import PyProof.Rows.All
import Wide.All
import OpenK.AllK
import Wide.FinOn
import Lean
import PyProof.EqAt
import PyProof.EqKinds
import PyProof.TupleCall
import PyProof.NeKinds
import KE.KMinBuiltin
import PyProof.Rows.CallKwBuiltin
import KE.KDictList
import PyProof.ZipIter
import PyProof.EnumFor
import PyProof.EnumMake
import PyProof.EnumStmt
import PyProof.Rows.Range3
import KE.KItemsList
import PyProof.ListRange
import KE.KIsAll
import PyProof.TupleIter
import PyProof.StationsW
import OpenK.KOwn
import PyProof.RulesDel
import PyProof.ExcArgsOwn
import PyProof.ExcAttrAll.ValueError
import KE.IntBitsLaws
import PyProof.IsRules
import PyProof.SetKind
import PyProof.Rows.SetFrom
import PyProof.CollectWalk
import PyProof.ListNew
import PyProof.Seq
import KE.KSortedM
import PyProof.InstStoreFacts
import PyProof.ExcInit
import KE.KSortTup
import PyProof.AttrMissSeq
import KE.KEqDict
import PyProof.Rows.FStr
import PyProof.Rows.StrJoin2
import OpenK.KTop
import PyProof.StrLaws
import PyProof.TupleKey
import PyProof.SetRoads
import PySem.Challenge.RW_shiftsums_k28_which_webs_are_bare
section
set_option Elab.async false
set_option linter.all false
set_option maxRecDepth 100000
namespace L2
open PySem PySem.Spec PyProof.Rows
abbrev Key := Sum Int Str
def keyIs : Key → Value → Bool
  | .inl k, v => Value.isInt k v
  | .inr x, v => Value.isStrOf x v
def keyH (w : World) : Key → Int
  | .inl k => hashInt k
  | .inr x => hashStr w x
theorem keyIs_shape : ∀ {k : Key} {v : Value}, keyIs k v = true → (∃ i t, k = Sum.inl i ∧ v = Value.int i t) ∨ (∃ x t, k = Sum.inr x ∧ v = Value.str x t)
  | .inl i, v, h => by
    obtain ⟨t, e⟩ := Value.isInt_shape (k := i) (v := v) h
    exact .inl ⟨i, t, rfl, e⟩
  | .inr x, v, h => by
    obtain ⟨t, e⟩ := Value.isStrOf_shape (x := x) (v := v) h
    exact .inr ⟨x, t, rfl, e⟩
theorem key_ll (a b : Int) : decide ((Sum.inl a : Key) = Sum.inl b) = (a == b) := by
  by_cases e : a = b
  · subst e; simp
  · have h : ¬ (Sum.inl a : Key) = Sum.inl b := fun q => e (Sum.inl.inj q)
    rw [decide_eq_false h]
    exact (beq_eq_false_iff_ne.mpr e).symm
theorem key_rr (a b : Str) : decide ((Sum.inr a : Key) = Sum.inr b) = decide (a = b) := by
  by_cases e : a = b
  · subst e; simp
  · have h : ¬ (Sum.inr a : Key) = Sum.inr b := fun q => e (Sum.inr.inj q)
    rw [decide_eq_false h, decide_eq_false e]
theorem key_lr (a : Int) (b : Str) : decide ((Sum.inl a : Key) = Sum.inr b) = false := decide_eq_false (fun q => nomatch q)
theorem key_rl (a : Str) (b : Int) : decide ((Sum.inr a : Key) = Sum.inl b) = false := decide_eq_false (fun q => nomatch q)
def mixKind (prog : Program) (w : World) : PySem.KeyKind prog w Key where
  is := keyIs
  hash := keyH w
  inj := fun v a b ha hb => by
    rcases keyIs_shape ha with ⟨i, t, rfl, rfl⟩ | ⟨x, t, rfl, rfl⟩
    · rcases keyIs_shape hb with ⟨j, u, rfl, e⟩ | ⟨y, u, rfl, e⟩
      · injection e with e1 _; rw [e1]
      · exact nomatch e
    · rcases keyIs_shape hb with ⟨j, u, rfl, e⟩ | ⟨y, u, rfl, e⟩
      · exact nomatch e
      · injection e with e1 _; rw [e1]
  byValue := fun k v h => by
    rcases keyIs_shape h with ⟨i, t, rfl, rfl⟩ | ⟨x, t, rfl, rfl⟩ <;> rfl
  pyHash := fun hv h => by
    rcases keyIs_shape hv with ⟨i, t, rfl, rfl⟩ | ⟨x, t, rfl, rfl⟩
    · exact wpAny_pyHash_int h
    · exact wpAny_pyHash_str h
  eqBool := fun hu hv h => by
    rcases keyIs_shape hu with ⟨i, t, rfl, rfl⟩ | ⟨x, t, rfl, rfl⟩
    · rcases keyIs_shape hv with ⟨j, u, rfl, rfl⟩ | ⟨y, u, rfl, rfl⟩
      · rw [key_ll] at h; exact wpAny_eqBool_int h
      · rw [key_lr] at h; exact SeqAt.EqAt.int_str i t y u _ _ _ _ h
    · rcases keyIs_shape hv with ⟨j, u, rfl, rfl⟩ | ⟨y, u, rfl, rfl⟩
      · rw [key_rl] at h; exact SeqAt.EqAt.str_int x t j u _ _ _ _ h
      · rw [key_rr] at h; exact wpAny_eqBool_str h
  «strs» := fun k x t v h => by
    rcases keyIs_shape h with ⟨i, u, rfl, e⟩ | ⟨y, u, rfl, e⟩
    · exact nomatch e
    · injection e with e1 _
      subst e1
      cases v <;> rfl
end L2
namespace L2
open PySem PySem.Spec PyProof.Rows
inductive V where
  | non | bl (b : Bool) | int (i : Int) | str (x : Str) | byt (b : Array UInt8) | flt (b : UInt64) | ref (a : Addr) | ty (n : String)
  deriving DecidableEq
def RelV : V → Value → Prop
  | .non, u => u = Value.none
  | .bl b, u => u = Value.bool b
  | .int i, u => ∃ t, u = Value.int i t
  | .str x, u => ∃ t, u = Value.str x t
  | .byt b, u => ∃ t, u = Value.bytes b t
  | .flt b, u => ∃ t, u = Value.float b t
  | .ref a, u => u = Value.ref a
  | .ty n, u => u = Value.type n
abbrev Vals : List V → List Value → Prop := Paired RelV
theorem Vals.length {xs : List V} {us : List Value} (r : Vals xs us) : xs.length = us.length := Paired.length r
theorem Vals.get : ∀ {xs : List V} {us : List Value} {i : Nat} {x : V}, Vals xs us → xs[i]? = some x → ∃ u, us[i]? = some u ∧ RelV x u
  | _, _, _, _, .nil, e => by simp at e
  | _, _, 0, _, .cons r _, e => by simp at e; subst e; exact ⟨_, rfl, r⟩
  | _, _, i + 1, x, .cons _ t, e => by
    obtain ⟨u, h1, h2⟩ := Vals.get (i := i) (x := x) t (by simpa using e)
    exact ⟨u, by simpa using h1, h2⟩
theorem Vals.set {x : V} {u : Value} (r : RelV x u) : ∀ {xs : List V} {us : List Value} (i : Nat), Vals xs us → Vals (xs.set i x) (us.set i u)
  | _, _, _, .nil => .nil
  | _, _, 0, .cons _ t => .cons r t
  | _, _, i + 1, .cons q t => .cons q (Vals.set r i t)
theorem Vals.append : ∀ {xs ys : List V} {us ws : List Value}, Vals xs us → Vals ys ws → Vals (xs ++ ys) (us ++ ws)
  | _, _, _, _, .nil, s => s
  | _, _, _, _, .cons r t, s => .cons r (Vals.append t s)
theorem Vals.take : ∀ {xs : List V} {us : List Value} (n : Nat), Vals xs us → Vals (xs.take n) (us.take n)
  | _, _, 0, _ => .nil
  | _, _, _ + 1, .nil => .nil
  | _, _, n + 1, .cons r t => .cons r (Vals.take n t)
theorem Vals.drop : ∀ {xs : List V} {us : List Value} (n : Nat), Vals xs us → Vals (xs.drop n) (us.drop n)
  | _, _, 0, r => r
  | _, _, _ + 1, .nil => .nil
  | _, _, n + 1, .cons _ t => Vals.drop n t
def RelO : Option V → Option Value → Prop
  | some v, some u => RelV v u
  | none, none => True
  | _, _ => False
def KV {κ : Type} : List (κ × V) → List (κ × Value) → Prop := Paired fun (p : κ × V) (q : κ × Value) => p.1 = q.1 ∧ RelV p.2 q.2
def kV : Key → V
  | .inl i => .int i
  | .inr x => .str x
inductive HO where
  | lst (xs : List V)
  | tup (xs : List V)
  | dK (kvs : List (Key × V)) | dT (kvs : List (List Key × V))
  | set (S : Int → Bool) (n : Nat)
  | ins (C dx : Addr) (fs : List (Str × V))
  | own (x : Addr)
  | xd (fs : List (Str × V))
  | met (f x : Addr)
  | rng (lo hi : Int)
  | frz (o : Obj) (u : HO)
  | tbl (ps : Array Value)
  | ext (φ : Heap → Prop)
abbrev Hp := Addr → Option HO
def upd (H : Hp) (a : Addr) (o : HO) : Hp := fun b => if b = a then some o else H b
theorem upd_same {H : Hp} {a : Addr} {o : HO} : upd H a o a = some o := by unfold upd; rw [if_pos rfl]
theorem upd_ne {H : Hp} {a b : Addr} {o : HO} (h : b ≠ a) : upd H a o b = H b := by unfold upd; rw [if_neg h]
theorem upd_upd {H : Hp} {a : Addr} {o u : HO} : upd (upd H a o) a u = upd H a u := by
  funext b; unfold upd; split <;> rfl
theorem ne_of {H : Hp} {a b : Addr} {o u : HO} (h : H a = some o) (h' : H b = some u) (d : o ≠ u) : a ≠ b := by
  intro e; subst e; rw [h] at h'; exact d (Option.some.inj h')
theorem ne_of_none {H : Hp} {a b : Addr} {o : HO} (h : H a = some o) (h' : H b = none) : a ≠ b := by
  intro e; subst e; rw [h] at h'; cases h'
section
variable (P : Program) (w : World)
def ObjOk (H : Hp) (h : Heap) (a : Addr) : HO → Prop
  | .lst xs => xs.length ≤ sizeLine ∧ ∃ (its : List Value) (n : Nat), Vals xs its ∧ h.get? a = some { cls := .type "list", data := .seq its.toArray n }
  | .tup xs => xs.length ≤ sizeLine ∧ ∃ its : List Value, Vals xs its ∧ IsTup h a its.toArray
  | .dK kvs => kvs.length ≤ sizeLine ∧ (a == sysModules) = false ∧ ∃ vs, KV kvs vs ∧ h.DictOf (mixKind P w) a vs
  | .dT kvs => kvs.length ≤ sizeLine ∧ (a == sysModules) = false ∧ ∃ xs : List (List Key × Addr × Value),
      Paired (fun (p : List Key × V) (q : List Key × Addr × Value) => p.1 = q.1 ∧ H q.2.1 = some (.tup (p.1.map kV)) ∧ RelV p.2 q.2.2) kvs xs ∧
      ∃ o es ep, h.get? a = some o ∧ o.ExactDict ∧ o.data = .dict es ep ∧ es.toList = xs.map (entryOfKey (tupleKind (mixKind P w))) ∧ (xs.map (·.1)).Nodup
  | .set S n => h.SetOf (intKind P w) a S n
  | .ins C dx fs => H dx = some (.own a) ∧ fs.length ≤ 1000 ∧ dx ≠ a ∧ h.get? a = some (PySem.W.instObj C dx) ∧
      ∃ mA, h.Ns1 dx mA ∧ (∀ f, RelO (fs.lookup f) (mA f)) ∧ PySem.Within mA (fs.map (·.1))
  | .own _ => ∃ o, h.get? a = some o
  | .xd fs => ∃ mA, h.Ns1 a mA ∧ ∀ f, RelO (fs.lookup f) (mA f)
  | .rng lo hi => ∃ t u v, h.get? a = some { cls := .type "range", data := .fields #[.int lo t, .int hi u, .int 1 v] }
  | .frz o u => h.get? a = some o ∧ ObjOk H h a u
  | .tbl ps => h.get? a = some { cls := .none, data := .fields ps }
  | .met f x => h.get? a = some (PySem.W.methodObj (.ref f) (.ref x))
  | .ext φ => φ h ∧ (∃ o, h.get? a = some o) ∧ ∀ h1 h2 : Heap, φ h1 → (∀ o, h1.get? a = some o → h2.get? a = some o) → φ h2
def HOk (H : Hp) (h : Heap) : Prop := ∀ a o, H a = some o → ObjOk P w H h a o
end
section
variable {P : Program} {w : World} {H H' : Hp} {h h' : Heap} {a : Addr} {o : HO}
theorem ObjOk.lt (x : ObjOk P w H h a o) : a < h.objs.size := by
  cases o with
  | lst xs => obtain ⟨_, _, _, _, e⟩ := x; exact Heap.lt_size e
  | tup xs => obtain ⟨_, _, _, p⟩ := x; exact p.lt
  | dK kvs => obtain ⟨_, _, _, _, o, _, _, e, _⟩ := x; exact Heap.lt_size e
  | dT kvs => obtain ⟨_, _, _, _, o, _, _, e, _⟩ := x; exact Heap.lt_size e
  | set S n => obtain ⟨o, _, _, _, e, _⟩ := x; exact Heap.lt_size e
  | ins C dx fs => obtain ⟨_, _, _, e, _⟩ := x; exact Heap.lt_size e
  | own y => obtain ⟨_, e⟩ := x; exact Heap.lt_size e
  | xd fs => obtain ⟨_, ⟨_, _, _, e, _⟩, _⟩ := x; exact Heap.lt_size e
  | rng lo hi => obtain ⟨_, _, _, e⟩ := x; exact Heap.lt_size e
  | frz ob u => obtain ⟨e, _⟩ := x; exact Heap.lt_size e
  | tbl ps => exact Heap.lt_size (show h.get? a = some _ from x)
  | met f y => exact Heap.lt_size (show h.get? a = some _ from x)
  | ext φ => obtain ⟨_, ⟨_, e⟩, _⟩ := x; exact Heap.lt_size e
theorem Paired.mapP {α β : Type} {F G : α → β → Prop} : ∀ {l₁ : List α} {l₂ : List β}, Paired F l₁ l₂ → (∀ a b, F a b → G a b) → Paired G l₁ l₂
  | _, _, .nil, _ => .nil
  | _, _, .cons r t, f => .cons (f _ _ r) (Paired.mapP t f)
theorem ObjOk.stay (x : ObjOk P w H h a o) (k : ∀ b u, (b = a ∨ H b = some (.own a)) → h.get? b = some u → h'.get? b = some u)
    (ho : ∀ b, H b = some (.own a) → H' b = some (.own a)) (ht : ∀ b xs, H b = some (.tup xs) → H' b = some (.tup xs)) : ObjOk P w H' h' a o := by
  induction o with
  | lst xs => obtain ⟨z, its, n, r, e⟩ := x; exact ⟨z, its, n, r, k _ _ (.inl rfl) e⟩
  | tup xs => obtain ⟨z, its, r, ob, e, c⟩ := x; exact ⟨z, its, r, ob, k _ _ (.inl rfl) e, c⟩
  | dK kvs => obtain ⟨z, y, vs, r, ob, es, ep, e, c⟩ := x; exact ⟨z, y, vs, r, ob, es, ep, k _ _ (.inl rfl) e, c⟩
  | dT kvs =>
    obtain ⟨z, y, xs, r, ob, es, ep, e, c⟩ := x
    exact ⟨z, y, xs, Paired.mapP r fun p q z => ⟨z.1, ht _ _ z.2.1, z.2.2⟩, ob, es, ep, k _ _ (.inl rfl) e, c⟩
  | set S n => obtain ⟨ob, es, ep, t, e, c⟩ := x; exact ⟨ob, es, ep, t, k _ _ (.inl rfl) e, c⟩
  | ins C dx fs =>
    obtain ⟨d, z, ne, e, mA, ⟨od, es, ep, e2, c⟩, r⟩ := x
    exact ⟨ho _ d, z, ne, k _ _ (.inl rfl) e, mA, ⟨od, es, ep, k _ _ (.inr d) e2, c⟩, r⟩
  | own y => obtain ⟨ob, e⟩ := x; exact ⟨ob, k _ _ (.inl rfl) e⟩
  | xd fs => obtain ⟨mA, ⟨od, es, ep, e, c⟩, r⟩ := x; exact ⟨mA, ⟨od, es, ep, k _ _ (.inl rfl) e, c⟩, r⟩
  | rng lo hi => obtain ⟨t, u, v, e⟩ := x; exact ⟨t, u, v, k _ _ (.inl rfl) e⟩
  | frz ob u ih => obtain ⟨e, q⟩ := x; exact ⟨k _ _ (.inl rfl) e, ih q⟩
  | tbl ps =>
    have e : h.get? a = some { cls := .none, data := .fields ps } := x
    show h'.get? a = some { cls := .none, data := .fields ps }
    exact k a _ (.inl rfl) e
  | met f y =>
    have e : h.get? a = some (PySem.W.methodObj (.ref f) (.ref y)) := x
    show h'.get? a = some (PySem.W.methodObj (.ref f) (.ref y))
    exact k a _ (.inl rfl) e
  | ext φ => obtain ⟨p, ⟨o, e⟩, st⟩ := x; exact ⟨st _ _ p fun o q => k _ _ (.inl rfl) q, ⟨o, k _ _ (.inl rfl) e⟩, st⟩
theorem HOk.lt (x : HOk P w H h) (e : H a = some o) : a < h.objs.size := (x a o e).lt
theorem HOk.fresh (x : HOk P w H h) (e : h.objs.size ≤ a) : H a = none := by
  cases q : H a with
  | none => rfl
  | some u => exact absurd (Nat.lt_of_lt_of_le (x.lt q) e) (Nat.lt_irrefl _)
theorem HOk.kept (x : HOk P w H h) (k : ∀ b u, h.get? b = some u → h'.get? b = some u) : HOk P w H h' := fun a o e =>
  (x a o e).stay (fun b u _ q => k b u q) (fun _ q => q) fun _ _ q => q
theorem HOk.laid (x : HOk P w H h) (k : ∀ b u, h.get? b = some u → h'.get? b = some u) (hp : h.objs.size ≤ a) (new : ObjOk P w (upd H a o) h' a o) : HOk P w (upd H a o) h' := fun b u e => by
  have hn := x.fresh hp
  by_cases hb : b = a
  · subst hb; rw [upd_same] at e; cases e; exact new
  · rw [upd_ne hb] at e
    exact (x b u e).stay (fun c v _ q => k c v q) (fun c q => by rw [upd_ne (ne_of_none q hn)]; exact q) fun c xs q => by rw [upd_ne (ne_of_none q hn)]; exact q
end
def Rd (H : Hp) (a : Addr) (u : HO) : Prop := H a = some u ∨ ∃ o, H a = some (.frz o u)
theorem Rd.ok {P : Program} {w : World} {H : Hp} {h : Heap} {a : Addr} {u : HO} (r : Rd H a u) (x : HOk P w H h) : ObjOk P w H h a u := by
  rcases r with r | ⟨o, r⟩
  · exact x a u r
  · obtain ⟨_, q⟩ := x a _ r
    exact q
def Mut : Option HO → Prop
  | some (.lst _) => True
  | some (.dK _) => True
  | some (.dT _) => True
  | some (.set _ _) => True
  | some (.ins _ _ _) => True
  | some (.ext _) => True
  | _ => False
section
variable {P : Program} {w : World} {H : Hp} {h h' : Heap} {x e : Addr} {o' : HO}
theorem HOk.write (ok : HOk P w H h) (mu : Mut (H x)) (he : e = x ∨ H e = some (.own x)) (k : ∀ b u, b ≠ e → h.get? b = some u → h'.get? b = some u) (heo : ∃ u, h'.get? e = some u)
    (new : ObjOk P w (upd H x o') h' x o') : HOk P w (upd H x o') h' := fun b u q => by
  have nown : ∀ c y, H c = some (.own y) → c ≠ x := fun c y r z => by subst z; rw [r] at mu; exact mu
  have ntup : ∀ c xs, H c = some (.tup xs) → c ≠ x := fun c xs r z => by subst z; rw [r] at mu; exact mu
  by_cases hb : b = x
  · subst hb; rw [upd_same] at q; cases q; exact new
  · rw [upd_ne hb] at q
    by_cases hbe : b = e
    · have q' : H b = some (.own x) := by
        rcases he with z | z
        · exact absurd (hbe.trans z) hb
        · rw [hbe]; exact z
      rw [q] at q'; cases q'
      obtain ⟨v, hv⟩ := heo
      exact ⟨v, by rw [hbe]; exact hv⟩
    · refine (ok b u q).stay (fun c v hc r => k c v ?_ r) (fun c r => by rw [upd_ne (nown c b r)]; exact r) fun c xs r => by rw [upd_ne (ntup c xs r)]; exact r
      rcases hc with rfl | hc
      · exact hbe
      · rintro rfl
        rcases he with z | z
        · exact nown c b hc z
        · rw [hc] at z; cases z; exact hb rfl
end
structure Un (fs ex : List Addr) (H H' : Hp) (h h' : Heap) : Prop where
  keep : ∀ b o, h.get? b = some o → H b = none → b ∉ fs → b ∉ ex → h'.get? b = some o
  slot : ∀ b o, h.get? b = some o → H b = none → b ∈ fs → b ∉ ex → ∃ sl, h'.get? b = some { o with slots := sl }
  free : ∀ b o, h.get? b = some o → H b = none → b ∉ ex → H' b = none
  there : ∀ b o, h.get? b = some o → b ∉ ex → ∃ o', h'.get? b = some o'
  tups : ∀ b xs, H b = some (.tup xs) → H' b = some (.tup xs)
  frzs : ∀ b o u, H b = some (.frz o u) → H' b = some (.frz o u)
  tbls : ∀ b ps, H b = some (.tbl ps) → ∃ more, H' b = some (.tbl (ps ++ more))
section
variable {fs fs' ex ex' : List Addr} {H H1 H2 : Hp} {h h1 h2 h' : Heap} {a x e : Addr} {o : HO}
theorem Un.any (u : Un fs ex H H1 h h1) {b : Addr} {ob : Obj} (q : h.get? b = some ob) (n : H b = none) (hx : b ∉ ex) : ∃ sl, h1.get? b = some { ob with slots := sl } := by
  by_cases hb : b ∈ fs
  · exact u.slot b ob q n hb hx
  · exact ⟨ob.slots, u.keep b ob q n hb hx⟩
theorem Un.kept (k : ∀ b u, h.get? b = some u → h'.get? b = some u) : Un fs ex H H h h' :=
  ⟨fun b ob q _ _ _ => k b ob q, fun b ob q _ _ _ => ⟨ob.slots, k b ob q⟩, fun _ _ _ n _ => n, fun b ob q _ => ⟨ob, k b ob q⟩, fun _ _ q => q, fun _ _ _ q => q, fun _ ps q => ⟨#[], by rw [q]; simp⟩⟩
theorem Un.refl : Un fs ex H H h h := Un.kept fun _ _ q => q
theorem Un.laid (k : ∀ b u, h.get? b = some u → h'.get? b = some u) (hp : h.objs.size ≤ a) (hn : H a = none) : Un fs ex H (upd H a o) h h' where
  keep := fun b u q _ _ _ => k b u q
  slot := fun b u q _ _ _ => ⟨u.slots, k b u q⟩
  free := fun b u q n _ => by rw [upd_ne (Nat.ne_of_lt (Nat.lt_of_lt_of_le (Heap.lt_size q) hp))]; exact n
  there := fun b u q _ => ⟨u, k b u q⟩
  tups := fun b xs q => by rw [upd_ne (ne_of_none q hn)]; exact q
  frzs := fun b u xs q => by rw [upd_ne (ne_of_none q hn)]; exact q
  tbls := fun b ps q => ⟨#[], by rw [upd_ne (ne_of_none q hn), q]; simp⟩
theorem Un.write (mu : Mut (H x)) (he : e = x ∨ H e = some (.own x)) (k : ∀ b u, b ≠ e → h.get? b = some u → h'.get? b = some u) (heo : ∃ u, h'.get? e = some u) : Un fs ex H (upd H x o) h h' := by
  have hx : ∀ b, H b = none → b ≠ x := fun b n z => by subst z; rw [n] at mu; exact mu
  have hb : ∀ b, H b = none → b ≠ e := fun b n z => by
    subst z
    rcases he with r | r
    · exact hx b n r
    · rw [n] at r; cases r
  have hm : ∀ b u, H b = some u → ¬ Mut (some u) → b ≠ x := fun b u q nm z => by subst z; rw [q] at mu; exact nm mu
  refine ⟨fun b u q n _ _ => k b u (hb b n) q, fun b u q n _ _ => ⟨u.slots, k b u (hb b n) q⟩, fun b u q n _ => by rw [upd_ne (hx b n)]; exact n, fun b u q _ => ?_,
    fun b xs q => by rw [upd_ne (hm b _ q fun z => z)]; exact q, fun b u xs q => by rw [upd_ne (hm b _ q fun z => z)]; exact q, fun b ps q => ⟨#[], by rw [upd_ne (hm b _ q fun z => z), q]; simp⟩⟩
  by_cases hbe : b = e
  · subst hbe; exact heo
  · exact ⟨u, k b u hbe q⟩
end
def trk (h : Heap) (H : Hp) : List Addr := (List.range h.objs.size).filter fun a => (H a).isSome
def hidT (h : Heap) (H : Hp) : Heap := PySem.W.hideAll h (trk h H)
theorem hidT_size (h : Heap) (H : Hp) : (hidT h H).objs.size = h.objs.size := PySem.W.hideAll_size _ _
theorem hidT_get {h : Heap} {H : Hp} {b : Addr} {o : Obj} (e : h.get? b = some o) (n : H b = none) : (hidT h H).get? b = some o :=
  PySem.W.hideAll_get _ e fun hm => by
    have q : (H b).isSome = true := (List.mem_filter.mp hm).2
    rw [n] at q; simp at q
theorem of_hidT {h : Heap} {H : Hp} {b : Addr} {o : Obj} (e : (hidT h H).get? b = some o) : h.get? b = some o ∧ H b = none := by
  have e' : h.get? b = some o := PySem.W.of_hideAll (trk h H) e
  refine ⟨e', ?_⟩
  cases q : H b with
  | none => rfl
  | some x =>
    have hm : b ∈ trk h H := List.mem_filter.mpr ⟨List.mem_range.mpr (Heap.lt_size e'), by simp [q]⟩
    have z : (hidT h H).get? b = none := PySem.W.hideAll_none (trk h H) hm
    rw [z] at e; cases e
def allNews (g h : Heap) (L : Addr) : List (Addr × Obj) := (List.range h.objs.size).filterMap fun a => if a = L ∨ (g.get? a).isSome = true then none else (h.get? a).map fun o => (a, o)
def rest (g h : Heap) (L d : Addr) : List (Addr × Obj) := (allNews g h L).filter fun p => decide (p.1 ≠ d)
end L2
namespace L2
open PySem PySem.Spec PyProof.Rows
structure Mod (K : PySem.W.Frag) (mg : Str → Option Value) (base : Heap) : Prop where
  kin : K.In base
  glob : base.Ns mainGlobals mg
  blt : ∃ mb, base.Ns builtinsNs mb ∧ ∀ x : Str, x ≠ "__name__" → mb x = bootBuiltins x
  nolimit : base.NoLimit
structure Cx where
  prog : Program
  w : World
  K : PySem.W.Frag
  mg : Str → Option Value
  base : Heap
  A : Around
  N : List Str
  s₀ : Shared
  H₀ : Hp
  env : Env
  outer : List Env
  stack : List Env
  ex : List Addr
  fn : Str → Bool
  calm : Bool
  pn : List (Addr × Obj)
  xe : Value → Shared → Prop
def frs (l : List Env) : List Addr := l.filterMap (·.frame)
abbrev Cx.fs (X : Cx) : List Addr := frs X.outer
def Vis (sc : Scope) (x : Str) : Prop := sc.names.lookup x = some .local ∨ sc.names.lookup x = some .cell ∨ sc.names.lookup x = some .free
def Loc (sc : Scope) (x : Str) : Prop := sc.names.lookup x = some .local ∨ sc.names.lookup x = some .cell
def Look (env : Env) (h : Heap) (m : Str → Option Value) (x : Str) (u : Value) : Prop :=
  (env.kindOf x = some .local ∧ m x = some u) ∨ ((env.kindOf x = some .cell ∨ env.kindOf x = some .free) ∧ ∃ c, env.cells.lookup x = some c ∧ h.IsCell c (some u))
structure Cx.Ok (X : Cx) : Prop where
  mod : Mod X.K X.mg X.base
  kind : X.env.scope.kind = .function
  glob : X.env.globals = mainGlobals
  blt : X.env.builtins = builtinsNs
  above : X.s₀.heap.objs.size ≤ X.env.locals
  inj : ∀ x y c, X.env.cells.lookup x = some c → X.env.cells.lookup y = some c → x = y
  has : ∀ x, (X.env.kindOf x = some .cell ∨ X.env.kindOf x = some .free) → ∃ c, X.env.cells.lookup x = some c
  cab : ∀ x c, X.fn x = true → X.env.cells.lookup x = some c → X.s₀.heap.objs.size ≤ c
  hd : X.calm = true → X.A.handled = none
  frames : X.A.frames = some X.stack
  stk : X.stack = X.outer ∨ (X.stack = X.env :: X.outer ∧ X.env.frame = some X.env.locals)
  exf : ∀ b ∈ X.ex, b ≠ X.env.locals ∧ ∀ x c, X.env.cells.lookup x = some c → c ≠ b
  bs : ∀ b o, X.base.get? b = some o → X.s₀.heap.get? b = some o ∧ X.H₀ b = none
  bsz : X.base.objs.size ≤ X.s₀.heap.objs.size
  noex : ∀ b o, X.base.get? b = some o → b ∉ X.ex
  exfs : ∀ b ∈ X.ex, b ∉ X.fs
  funs : X.s₀.heap.FunFrames X.base X.outer
  frf : ∀ b ∈ X.fs, X.H₀ b = none
structure Inv (X : Cx) (pins : List (Addr × Obj)) (σ : List (Option V)) (H : Hp) (s : Shared) : Prop where
  ok : X.Ok
  os : s.os = X.s₀.os
  bare : AllBare s.gens
  base : Un X.fs X.ex X.H₀ H X.s₀.heap s.heap
  loc : ∃ m, s.heap.Ns X.env.locals m ∧ ∀ (i : Nat) (x : Str) (v : V), X.N[i]? = some x → σ[i]? = some (some v) → Vis X.env.scope x → ∃ u, RelV v u ∧ Look X.env s.heap m x u
  cell : ∀ x c, X.env.cells.lookup x = some c → ∃ v, s.heap.IsCell c v
  free : H X.env.locals = none
  freeC : ∀ x c, X.env.cells.lookup x = some c → H c = none
  pin : ∀ p ∈ X.pn ++ pins, s.heap.get? p.1 = some p.2 ∧ H p.1 = none ∧ p.1 ≠ X.env.locals ∧ p.1 ∉ X.fs ∧ ∀ v, p.2.data ≠ .cell v
  hok : HOk X.prog X.w H s.heap
  len : σ.length = X.N.length
section
variable {X : Cx} {pins : List (Addr × Obj)} {σ : List (Option V)} {H H' : Hp} {s : Shared} {h' : Heap}
theorem Cx.Ok.nofr (ok : X.Ok) {b : Addr} {o : Obj} (e : X.base.get? b = some o) : b ∉ X.fs := fun hb => by
  have := (ok.funs.mem hb).1
  rw [e] at this; cases this
theorem Inv.bs (I : Inv X pins σ H s) : ∀ b o, X.base.get? b = some o → s.heap.get? b = some o ∧ H b = none := fun b o e =>
  ⟨I.base.keep b o (I.ok.bs b o e).1 (I.ok.bs b o e).2 (I.ok.nofr e) (I.ok.noex b o e), I.base.free b o (I.ok.bs b o e).1 (I.ok.bs b o e).2 (I.ok.noex b o e)⟩
theorem Inv.bk (I : Inv X pins σ H s) : ∀ b o, X.base.get? b = some o → s.heap.get? b = some o := fun b o e => (I.bs b o e).1
theorem Inv.mod (I : Inv X pins σ H s) : Mod X.K X.mg X.base := I.ok.mod
theorem Inv.kIn (I : Inv X pins σ H s) : X.K.In s.heap := I.ok.mod.kin.keeps I.bk
theorem Inv.lt (I : Inv X pins σ H s) : X.env.locals < s.heap.objs.size := let ⟨_, hn, _⟩ := I.loc; hn.lt
theorem Inv.sz (I : Inv X pins σ H s) : X.s₀.heap.objs.size ≤ s.heap.objs.size := Nat.le_trans I.ok.above (Nat.le_of_lt I.lt)
theorem Inv.nofs (I : Inv X pins σ H s) {a : Addr} (h : s.heap.objs.size ≤ a) : a ∉ X.fs := fun hb => by
  obtain ⟨_, o, ho, _⟩ := I.ok.funs.mem hb
  exact absurd (Nat.lt_of_lt_of_le (Heap.lt_size ho) (Nat.le_trans I.sz h)) (Nat.lt_irrefl _)
theorem Inv.cne (I : Inv X pins σ H s) : ∀ x c, X.env.cells.lookup x = some c → c ≠ X.env.locals := fun x c e z => by
  obtain ⟨v, o, ho, hd⟩ := I.cell x c e
  obtain ⟨m, ⟨o', es, ep, ho', hd', _⟩, _⟩ := I.loc
  rw [z, ho'] at ho; cases ho; rw [hd'] at hd; cases hd
theorem Inv.funs (I : Inv X pins σ H s) : s.heap.FunFrames X.base X.outer := by
  have all : ∀ (l : List Env), (∀ b ∈ frs l, b ∈ X.fs) → X.s₀.heap.FunFrames X.base l → s.heap.FunFrames X.base l := by
    intro l
    induction l with
    | nil => intro _ _; trivial
    | cons env r ih =>
      intro hs hl
      obtain ⟨hk, ⟨L, o, hf, hn, ho, hd⟩, hr⟩ := hl
      have hL : L ∈ X.fs := hs L (by unfold frs; rw [List.filterMap_cons, hf]; exact List.mem_cons_self)
      obtain ⟨sl, e⟩ := I.base.slot L o ho (I.ok.frf L hL) hL fun z => I.ok.exfs L z hL
      exact ⟨hk, ⟨L, _, hf, hn, e, hd⟩, ih (fun b hb => hs b (by unfold frs; rw [List.filterMap_cons, hf]; exact List.mem_cons_of_mem _ hb)) hr⟩
  exact all X.outer (fun _ hb => hb) I.ok.funs
theorem Inv.stack (I : Inv X pins σ H s) : s.heap.FunFrames X.base X.stack := by
  rcases I.ok.stk with e | ⟨e, hf⟩
  · rw [e]; exact I.funs
  · rw [e]
    obtain ⟨m, hn, _⟩ := I.loc
    refine .cons (by rw [I.ok.kind]; decide) hf hn ?_ I.funs
    exact Heap.get?_none_of_le (Nat.le_trans I.ok.bsz I.ok.above)
theorem Inv.stkSub (I : Inv X pins σ H s) : ∀ b ∈ frs X.stack, b ∈ X.env.locals :: X.fs := fun b hb => by
  rcases I.ok.stk with e | ⟨e, hf⟩
  · rw [e] at hb; exact List.mem_cons_of_mem _ hb
  · rw [e] at hb
    unfold frs at hb
    rw [List.filterMap_cons, hf] at hb
    exact hb
theorem Inv.stkFree (I : Inv X pins σ H s) : ∀ b ∈ frs X.stack, H b = none := fun b hb => by
  rcases List.mem_cons.mp (I.stkSub b hb) with e | hb
  · rw [e]; exact I.free
  · obtain ⟨_, o, ho, _⟩ := I.ok.funs.mem hb
    exact I.base.free b o ho (I.ok.frf b hb) fun z => I.ok.exfs b z hb
theorem Inv.step {g' : Array GenState} {t' : Nat} {d' : Drawn} {ch : List Addr} (I : Inv X pins σ H s)
    (hch : ∀ b ∈ ch, (b ∈ X.ex ∨ X.s₀.heap.objs.size ≤ b) ∧ b ≠ X.env.locals ∧ (∀ x c, X.env.cells.lookup x = some c → c ≠ b) ∧ ∀ p ∈ X.pn ++ pins, p.1 ≠ b)
    (keep : ∀ b o, b ≠ X.env.locals → b ∉ X.fs → b ∉ ch → s.heap.get? b = some o → H b = none → h'.get? b = some o)
    (slot : ∀ b o, b ≠ X.env.locals → b ∈ X.fs → b ∉ ch → s.heap.get? b = some o → H b = none → ∃ sl, h'.get? b = some { o with slots := sl }) (free : ∀ b o, b ∉ ch → s.heap.get? b = some o → H b = none → H' b = none)
    (there : ∀ b o, b ∉ ch → s.heap.get? b = some o → ∃ o', h'.get? b = some o')
    (tups : ∀ b xs, H b = some (.tup xs) → H' b = some (.tup xs)) (frzs : ∀ b o u, H b = some (.frz o u) → H' b = some (.frz o u)) (tbls : ∀ b ps, H b = some (.tbl ps) → ∃ more, H' b = some (.tbl (ps ++ more)))
    (ns : ∀ m, s.heap.Ns X.env.locals m → h'.Ns X.env.locals m) (hok : HOk X.prog X.w H' h') (hg : AllBare g') :
    Inv X pins σ H' { s with heap := h', gens := g', drawn := d', toks := t' } := by
  have neL : ∀ b o, X.s₀.heap.get? b = some o → b ≠ X.env.locals := fun b o e => Nat.ne_of_lt (Nat.lt_of_lt_of_le (Heap.lt_size e) I.ok.above)
  have neC : ∀ b o, X.s₀.heap.get? b = some o → b ∉ X.ex → b ∉ ch := fun b o e hx hb => by
    rcases (hch b hb).1 with z | z
    · exact hx z
    · exact absurd (Nat.lt_of_lt_of_le (Heap.lt_size e) z) (Nat.lt_irrefl _)
  have cellK : ∀ x c, X.env.cells.lookup x = some c → ∀ v, s.heap.IsCell c v → h'.IsCell c v := fun x c e v ⟨o, ho, hd⟩ => by
    have nch : c ∉ ch := fun z => (hch c z).2.2.1 x c e rfl
    by_cases hc : c ∈ X.fs
    · obtain ⟨sl, q⟩ := slot c o (I.cne x c e) hc nch ho (I.freeC x c e)
      exact ⟨_, q, hd⟩
    · exact ⟨o, keep c o (I.cne x c e) hc nch ho (I.freeC x c e), hd⟩
  refine ⟨I.ok, I.os, hg, ⟨fun b o e n hb hx => ?_, fun b o e n hb hx => ?_, fun b o e n hx => ?_, fun b o e hx => ?_, fun b xs e => tups b xs (I.base.tups b xs e), fun b o xs e => frzs b o xs (I.base.frzs b o xs e), fun b ps e => ?_⟩, ?_, fun x c e => ?_, ?_, fun x c e => ?_, fun p hp => ?_, hok, I.len⟩
  · exact keep b o (neL b o e) hb (neC b o e hx) (I.base.keep b o e n hb hx) (I.base.free b o e n hx)
  · obtain ⟨sl, e1⟩ := I.base.slot b o e n hb hx
    obtain ⟨sl', e2⟩ := slot b _ (neL b o e) hb (neC b o e hx) e1 (I.base.free b o e n hx)
    exact ⟨sl', e2⟩
  · obtain ⟨o', e1⟩ := I.base.there b o e hx
    exact free b o' (neC b o e hx) e1 (I.base.free b o e n hx)
  · obtain ⟨o', e1⟩ := I.base.there b o e hx
    exact there b o' (neC b o e hx) e1
  · obtain ⟨m1, e1⟩ := I.base.tbls b ps e
    obtain ⟨m2, e2⟩ := tbls b _ e1
    exact ⟨m1 ++ m2, by rw [e2, Array.append_assoc]⟩
  · obtain ⟨m, hn, hl⟩ := I.loc
    refine ⟨m, ns m hn, fun i x v e1 e2 e3 => ?_⟩
    obtain ⟨u, r, l⟩ := hl i x v e1 e2 e3
    refine ⟨u, r, ?_⟩
    rcases l with l | ⟨k, c, e, z⟩
    · exact .inl l
    · exact .inr ⟨k, c, e, cellK x c e _ z⟩
  · obtain ⟨v, z⟩ := I.cell x c e
    exact ⟨v, cellK x c e v z⟩
  · obtain ⟨m, ⟨o, _, _, ho, _⟩, _⟩ := I.loc
    exact free _ o (fun z => (hch _ z).2.1 rfl) ho I.free
  · obtain ⟨v, o, ho, hd⟩ := I.cell x c e
    exact free c o (fun z => (hch c z).2.2.1 x c e rfl) ho (I.freeC x c e)
  · obtain ⟨e, n, ne, nf, d⟩ := I.pin p hp
    have nch : p.1 ∉ ch := fun z => (hch p.1 z).2.2.2 p hp rfl
    exact ⟨keep p.1 p.2 ne nf nch e n, free p.1 p.2 nch e n, ne, nf, d⟩
theorem Inv.un {t' : Nat} (I : Inv X pins σ H s) (u : Un X.fs [] H H' s.heap h') (hok : HOk X.prog X.w H' h') : Inv X pins σ H' { s with heap := h', toks := t' } := by
  obtain ⟨m, ⟨o, es, ep, ho, r⟩, _⟩ := id I.loc
  obtain ⟨sl, hL⟩ := u.any ho I.free (by simp)
  exact I.step (g' := s.gens) (d' := s.drawn) (ch := []) (fun _ z => nomatch z) (fun b o _ hb _ e n => u.keep b o e n hb (by simp)) (fun b o _ hb _ e n => u.slot b o e n hb (by simp)) (fun b o _ e n => u.free b o e n (by simp)) (fun b o _ e => u.there b o e (by simp)) u.tups u.frzs u.tbls (fun m' hm => by
    obtain ⟨o', es', ep', ho', r'⟩ := hm
    rw [ho] at ho'; cases ho'
    exact ⟨_, es', ep', hL, r'⟩) hok I.bare
theorem Inv.call {g' : Array GenState} {t' : Nat} {d' : Drawn} {ch : List Addr} (I : Inv X pins σ H s) (u : Un (frs X.stack) ch H H' s.heap h') (hok : HOk X.prog X.w H' h') (hg : AllBare g')
    (hch : ∀ b ∈ ch, (b ∈ X.ex ∨ X.s₀.heap.objs.size ≤ b) ∧ b ≠ X.env.locals ∧ (∀ x c, X.env.cells.lookup x = some c → c ≠ b) ∧ ∀ p ∈ X.pn ++ pins, p.1 ≠ b) :
    Inv X pins σ H' { s with heap := h', gens := g', drawn := d', toks := t' } := by
  obtain ⟨m, ⟨o, es, ep, ho, r⟩, _⟩ := id I.loc
  obtain ⟨sl, hL⟩ := u.any ho I.free fun z => (hch _ z).2.1 rfl
  exact I.step (ch := ch) hch (fun b o hL hb hc e n => u.keep b o e n (fun z => (List.mem_cons.mp (I.stkSub b z)).elim hL hb) hc) (fun b o _ _ hc e n => u.any e n hc) (fun b o hc e n => u.free b o e n hc) (fun b o hc e => u.there b o e hc) u.tups u.frzs u.tbls (fun m' hm => by
    obtain ⟨o', es', ep', ho', r'⟩ := hm
    rw [ho] at ho'; cases ho'
    exact ⟨_, es', ep', hL, r'⟩) hok hg
theorem Inv.turned {t' : Nat} {it : Addr} (I : Inv X pins σ H s) (k : ∀ b o, b ≠ it → s.heap.get? b = some o → h'.get? b = some o) (hn : H it = none) (hL : it ≠ X.env.locals)
    (h1 : it ∈ X.ex ∨ X.s₀.heap.objs.size ≤ it) (h2 : ∀ x c, X.env.cells.lookup x = some c → c ≠ it) (h3 : ∀ p ∈ X.pn ++ pins, p.1 ≠ it) : Inv X pins σ H { s with heap := h', toks := t' } := by
  have nit : ∀ b u, H b = some u → b ≠ it := fun b u e z => by rw [z, hn] at e; cases e
  refine I.step (g' := s.gens) (d' := s.drawn) (ch := [it]) (fun b hb => ?_) (fun b o _ _ hc e _ => k b o (fun z => hc (by simp [z])) e) (fun b o _ _ hc e _ => ⟨o.slots, k b o (fun z => hc (by simp [z])) e⟩) (fun _ _ _ _ n => n)
    (fun b o hc e => ⟨o, k b o (fun z => hc (by simp [z])) e⟩) (fun _ _ e => e) (fun _ _ _ e => e) (fun b ps e => ⟨#[], by rw [e]; simp⟩) (fun m hm => ?_) (fun b u e => ?_) I.bare
  · have e : b = it := by simpa using hb
    subst e
    exact ⟨h1, hL, h2, h3⟩
  · obtain ⟨o, es, ep, ho, r⟩ := hm
    exact ⟨o, es, ep, k _ o (Ne.symm hL) ho, r⟩
  · refine (I.hok b u e).stay (fun c v hc q => k c v ?_ q) (fun _ q => q) fun _ _ q => q
    rcases hc with z | z
    · rw [z]; exact nit b u e
    · exact nit c _ z
theorem Inv.tok (I : Inv X pins σ H s) (t : Nat) : Inv X pins σ H { s with toks := t } := I.un (h' := s.heap) (t' := t) Un.refl I.hok
theorem Inv.kept {t' : Nat} (I : Inv X pins σ H s) (k : ∀ b u, s.heap.get? b = some u → h'.get? b = some u) : Inv X pins σ H { s with heap := h', toks := t' } := I.un (Un.kept k) (I.hok.kept k)
theorem Inv.laid {a : Addr} {o : HO} {t' : Nat} (I : Inv X pins σ H s) (k : ∀ b u, s.heap.get? b = some u → h'.get? b = some u) (hp : s.heap.objs.size ≤ a) (new : ObjOk X.prog X.w (upd H a o) h' a o) :
    Inv X pins σ (upd H a o) { s with heap := h', toks := t' } := I.un (Un.laid k hp (I.hok.fresh hp)) (I.hok.laid k hp new)
theorem Inv.write {x e : Addr} {o : HO} {t' : Nat} (I : Inv X pins σ H s) (mu : Mut (H x)) (he : e = x ∨ H e = some (.own x)) (k : ∀ b u, b ≠ e → s.heap.get? b = some u → h'.get? b = some u) (heo : ∃ u, h'.get? e = some u)
    (new : ObjOk X.prog X.w (upd H x o) h' x o) : Inv X pins σ (upd H x o) { s with heap := h', toks := t' } := I.un (Un.write mu he k heo) (I.hok.write mu he k heo new)
theorem Inv.pins_of {pins' : List (Addr × Obj)} (I : Inv X pins σ H s) (h : ∀ p ∈ pins', s.heap.get? p.1 = some p.2 ∧ H p.1 = none ∧ p.1 ≠ X.env.locals ∧ p.1 ∉ X.fs ∧ ∀ v, p.2.data ≠ .cell v) : Inv X pins' σ H s :=
  ⟨I.ok, I.os, I.bare, I.base, I.loc, I.cell, I.free, I.freeC, fun p hp => (List.mem_append.mp hp).elim (fun z => I.pin p (List.mem_append_left _ z)) (h p), I.hok, I.len⟩
theorem nodup_ix {N : List Str} (hN : N.Nodup) {i j : Nat} {x : Str} (a : N[i]? = some x) (b : N[j]? = some x) : i = j := by
  obtain ⟨h1, e1⟩ := List.getElem?_eq_some_iff.mp a
  obtain ⟨h2, e2⟩ := List.getElem?_eq_some_iff.mp b
  exact (List.getElem_inj hN).mp (e1.trans e2.symm)
theorem store_ok2 {M : Model} {A : Around} {E : Value → Shared → Prop} {i : Nat} {x : Str} {v : V} {u : Value} {Q : Unit → Shared → Prop} (I : Inv X pins σ H s) (hN : X.N.Nodup) (hi : X.N[i]? = some x) (hx : Loc X.env.scope x) (r : RelV v u)
    (h : ∀ s', Inv X pins (σ.set i (some v)) H s' → (∃ a, Heap.SameBut a s.heap s'.heap ∧ (a = X.env.locals ∨ X.env.cells.lookup x = some a)) → Q () s') (hf : X.fn x = true ∨ X.env.scope.names.lookup x = some .local := by first | exact .inl rfl | exact .inr rfl | assumption) : wpAny M A (storeName X.env x u) Q E s := by
  obtain ⟨m, hn, hl⟩ := id I.loc
  have hcls : (X.env.scope.kind == .class || (X.env.scope.kind == .module && X.env.locals != X.env.globals)) = false := by rw [I.ok.kind]; rfl
  have hiσ : i < σ.length := by rw [I.len]; exact (List.getElem?_eq_some_iff.mp hi).1
  have cne := I.cne
  have tracked : ∀ {a : Addr} {h' : Heap}, (∃ o, s.heap.get? a = some o ∧ H a = none) → Heap.SameBut a s.heap h' → HOk X.prog X.w H h' := fun {a h'} ha hs b ob e => by
    obtain ⟨_, _, hfree⟩ := ha
    refine (I.hok b ob e).stay (fun c w' hc q => (hs.2 c ?_).trans q) (fun _ q => q) fun _ _ q => q
    rintro rfl
    rcases hc with rfl | hc
    · rw [hfree] at e; cases e
    · rw [hfree] at hc; cases hc
  rcases hx with hk | hk
  · refine wpAny_storeName_local hk hn (fun h' hn' hs => ?_) hcls
    obtain ⟨oL, _, _, hoL, _⟩ := id hn
    refine h _ ⟨I.ok, I.os, I.bare, ⟨fun b o e n hb hx => ?_, fun b o e n hb hx => ?_, I.base.free, fun b o e hx => ?_, I.base.tups, I.base.frzs, I.base.tbls⟩, ⟨_, hn', fun j y v' e1 e2 e3 => ?_⟩, fun y c e => ?_, I.free, I.freeC, fun p hp => ?_, tracked ⟨oL, hoL, I.free⟩ hs, by simpa using I.len⟩ ⟨_, hs, .inl rfl⟩
    · exact (hs.2 b (Nat.ne_of_lt (Nat.lt_of_lt_of_le (Heap.lt_size e) I.ok.above))).trans (I.base.keep b o e n hb hx)
    · obtain ⟨sl, e1⟩ := I.base.slot b o e n hb hx
      exact ⟨sl, (hs.2 b (Nat.ne_of_lt (Nat.lt_of_lt_of_le (Heap.lt_size e) I.ok.above))).trans e1⟩
    · obtain ⟨o', e1⟩ := I.base.there b o e hx
      exact ⟨o', (hs.2 b (Nat.ne_of_lt (Nat.lt_of_lt_of_le (Heap.lt_size e) I.ok.above))).trans e1⟩
    · by_cases hj : j = i
      · subst hj
        rw [hi] at e1; cases e1
        rw [List.getElem?_set_self hiσ] at e2
        cases e2
        exact ⟨u, r, .inl ⟨hk, by simp⟩⟩
      · rw [List.getElem?_set_ne (Ne.symm hj)] at e2
        obtain ⟨u', r', q⟩ := hl j y v' e1 e2 e3
        refine ⟨u', r', ?_⟩
        rcases q with ⟨k, e⟩ | ⟨k, c, e, z⟩
        · refine .inl ⟨k, ?_⟩
          have : y ≠ x := fun e => hj (nodup_ix hN e1 (e ▸ hi))
          simp [this, e]
        · exact .inr ⟨k, c, e, z.sameBut hs (cne y c e)⟩
    · obtain ⟨w', z⟩ := I.cell y c e
      exact ⟨w', z.sameBut hs (cne y c e)⟩
    · obtain ⟨e, n, ne, nf, d⟩ := I.pin p hp
      exact ⟨(hs.2 p.1 ne).trans e, n, ne, nf, d⟩
  · have hfn : X.fn x = true := by
      rcases hf with z | z
      · exact z
      · rw [z] at hk; cases hk
    obtain ⟨c, hc⟩ := I.ok.has x (.inl hk)
    obtain ⟨w', z⟩ := I.cell x c hc
    refine wpAny_storeName_cell I.ok.kind hk hc z (fun h' hc' hs => ?_)
    obtain ⟨oc, hoc, hocd⟩ := id z
    refine h { s with heap := h' } ⟨I.ok, I.os, I.bare, ⟨fun b o e n hb hx => ?_, fun b o e n hb hx => ?_, I.base.free, fun b o e hx => ?_, I.base.tups, I.base.frzs, I.base.tbls⟩, ⟨m, hn.sameBut hs (Ne.symm (cne x c hc)), fun j y v' e1 e2 e3 => ?_⟩, fun y c' e => ?_, I.free, I.freeC, fun p hp => ?_, tracked ⟨oc, hoc, I.freeC x c hc⟩ hs, by simpa using I.len⟩ ⟨c, hs, .inr hc⟩
    · exact (hs.2 b (Nat.ne_of_lt (Nat.lt_of_lt_of_le (Heap.lt_size e) (I.ok.cab x c hfn hc)))).trans (I.base.keep b o e n hb hx)
    · obtain ⟨sl, e1⟩ := I.base.slot b o e n hb hx
      exact ⟨sl, (hs.2 b (Nat.ne_of_lt (Nat.lt_of_lt_of_le (Heap.lt_size e) (I.ok.cab x c hfn hc)))).trans e1⟩
    · obtain ⟨o', e1⟩ := I.base.there b o e hx
      exact ⟨o', (hs.2 b (Nat.ne_of_lt (Nat.lt_of_lt_of_le (Heap.lt_size e) (I.ok.cab x c hfn hc)))).trans e1⟩
    · by_cases hj : j = i
      · subst hj
        rw [hi] at e1; cases e1
        rw [List.getElem?_set_self hiσ] at e2
        cases e2
        exact ⟨u, r, .inr ⟨.inl hk, c, hc, hc'⟩⟩
      · rw [List.getElem?_set_ne (Ne.symm hj)] at e2
        obtain ⟨u', r', q⟩ := hl j y v' e1 e2 e3
        refine ⟨u', r', ?_⟩
        rcases q with q | ⟨k, c', e, z'⟩
        · exact .inl q
        · refine .inr ⟨k, c', e, z'.sameBut hs ?_⟩
          rintro rfl
          exact hj (nodup_ix hN e1 (I.ok.inj _ _ _ e hc ▸ hi))
    · by_cases hcc : c' = c
      · subst hcc; exact ⟨_, hc'⟩
      · obtain ⟨w2, z2⟩ := I.cell y c' e
        exact ⟨w2, z2.sameBut hs hcc⟩
    · obtain ⟨e, n, ne, nf, d⟩ := I.pin p hp
      refine ⟨(hs.2 p.1 ?_).trans e, n, ne, nf, d⟩
      intro q
      rw [q, hoc] at e
      have q' : oc = p.2 := Option.some.inj e
      exact d w' (by rw [← q']; exact hocd)
theorem store_ok {M : Model} {A : Around} {E : Value → Shared → Prop} {i : Nat} {x : Str} {v : V} {u : Value} {Q : Unit → Shared → Prop} (I : Inv X pins σ H s) (hN : X.N.Nodup) (hi : X.N[i]? = some x) (hx : Loc X.env.scope x) (r : RelV v u)
    (h : ∀ s', Inv X pins (σ.set i (some v)) H s' → Q () s') (hf : X.fn x = true ∨ X.env.scope.names.lookup x = some .local := by first | exact .inl rfl | exact .inr rfl | assumption) : wpAny M A (storeName X.env x u) Q E s :=
  store_ok2 I hN hi hx r (fun s' I' _ => h s' I') hf
theorem Inv.call' {s' : Shared} {ch : List Addr} (I : Inv X pins σ H s) (ho : s'.os = s.os) (u : Un (frs X.stack) ch H H' s.heap s'.heap) (hok : HOk X.prog X.w H' s'.heap) (hg : AllBare s'.gens)
    (hch : ∀ b ∈ ch, (b ∈ X.ex ∨ X.s₀.heap.objs.size ≤ b) ∧ b ≠ X.env.locals ∧ (∀ x c, X.env.cells.lookup x = some c → c ≠ b) ∧ ∀ p ∈ X.pn ++ pins, p.1 ≠ b) : Inv X pins σ H' s' := by
  obtain ⟨h', g', d', t', o'⟩ := s'
  have e : o' = s.os := ho
  subst e
  exact I.call (g' := g') (t' := t') (d' := d') u hok hg hch
end
abbrev XK := Value → Option Addr → Hp → Prop
abbrev St := List (Option V)
abbrev VK := V → Hp → Prop
abbrev TE := St → Hp → VK → Prop
abbrev TT := St → Hp → (Bool → Hp → Prop) → Prop
abbrev TA := St → Hp → (List V → Hp → Prop) → Prop
structure Ends where
  nx : St → Hp → Prop
  rt : VK
  bk : St → Hp → Prop := fun _ _ => False
  ct : St → Hp → Prop := fun _ _ => False
abbrev TS := Ends → St → Hp → Prop
def EP (X : Cx) (pins : List (Addr × Obj)) (σ : St) (Q : VK) (u : Value) (s' : Shared) : Prop := ∃ v H', Inv X pins σ H' s' ∧ RelV v u ∧ Q v H'
def TP (X : Cx) (pins : List (Addr × Obj)) (σ : St) (Q : Bool → Hp → Prop) (b : Bool) (s' : Shared) : Prop := ∃ H', Inv X pins σ H' s' ∧ Q b H'
def AP (X : Cx) (pins : List (Addr × Obj)) (σ : St) (Q : List V → Hp → Prop) (us : List Value) (s' : Shared) : Prop := ∃ vs H', Inv X pins σ H' s' ∧ Vals vs us ∧ Q vs H'
def SP (X : Cx) (pins : List (Addr × Obj)) (D : Ends) (f : Flow) (s' : Shared) : Prop :=
  match f with
  | .next => ∃ σ' H', Inv X pins σ' H' s' ∧ D.nx σ' H'
  | .brk => ∃ σ' H', Inv X pins σ' H' s' ∧ D.bk σ' H'
  | .cont => ∃ σ' H', Inv X pins σ' H' s' ∧ D.ct σ' H'
  | .ret u => ∃ v σ' H', Inv X pins σ' H' s' ∧ RelV v u ∧ D.rt v H'
def PE (X : Cx) (e : Expr) (t : TE) : Prop :=
  ∀ (pins : List (Addr × Obj)) (s : Shared) (σ : St) (H : Hp) (Q : VK), Inv X pins σ H s → t σ H Q → wpAny (model X.prog X.w) X.A (eval e X.env) (EP X pins σ Q) X.xe s
def PT (X : Cx) (e : Expr) (t : TT) : Prop :=
  ∀ (pins : List (Addr × Obj)) (s : Shared) (σ : St) (H : Hp) (Q : Bool → Hp → Prop), Inv X pins σ H s → t σ H Q → wpAny (model X.prog X.w) X.A (isTrue e X.env (eval e X.env)) (TP X pins σ Q) X.xe s
def PW (X : Cx) (e : Expr) (t : TT) : Prop :=
  ∀ (whole : Sem Value) (pins : List (Addr × Obj)) (s : Shared) (σ : St) (H : Hp) (Q : Bool → Hp → Prop), Inv X pins σ H s → t σ H Q → wpAny (model X.prog X.w) X.A (isTrue e X.env whole) (TP X pins σ Q) X.xe s
theorem PW.pt {X : Cx} {e : Expr} {t : TT} (h : PW X e t) : PT X e t := h _
def PA (X : Cx) (es : List Expr) (t : TA) : Prop :=
  ∀ (pos : Pos) (pins : List (Addr × Obj)) (s : Shared) (σ : St) (H : Hp) (Q : List V → Hp → Prop), Inv X pins σ H s → t σ H Q → wpAny (model X.prog X.w) X.A (spliced (backTo pos (starEach es X.env))) (AP X pins σ Q) X.xe s
def PS (X : Cx) (st : Stmt) (t : TS) : Prop :=
  ∀ (pins : List (Addr × Obj)) (s : Shared) (σ : St) (H : Hp) (D : Ends), Inv X pins σ H s → t D σ H → wpAny (model X.prog X.w) X.A (exec st X.env) (SP X pins D) X.xe s
def PSs (X : Cx) (st : List Stmt) (t : TS) : Prop :=
  ∀ (pins : List (Addr × Obj)) (s : Shared) (σ : St) (H : Hp) (D : Ends), Inv X pins σ H s → t D σ H → wpAny (model X.prog X.w) X.A (execs st X.env) (SP X pins D) X.xe s
theorem thn {α : Type} {t : Sem α} {Q Q' : α → Shared → Prop} {M : Model} {A : Around} {E : Value → Shared → Prop} {s : Shared} (h : wpAny M A t Q E s) (hQ : ∀ a s, Q a s → Q' a s) : wpAny M A t Q' E s := wpAny_mono h hQ fun _ _ x => x
end L2
namespace L2
open PySem PySem.Spec PyProof.Rows
section
variable {X : Cx}
def tVar (i : Nat) : TE := fun σ H Q => ∃ v, σ[i]? = some (some v) ∧ Q v H
def tC (v : V) : TE := fun _ H Q => Q v H
theorem pe_var {i : Nat} {x : Str} {pos : Pos} (hN : X.N[i]? = some x) (hv : Vis X.env.scope x) (hd : (x == ("__debug__" : Str)) = false := by decide) (hcd : (x == ("__classdict__" : Str)) = false := by decide) : PE X (.Name x pos) (tVar i) := by
  intro pins s σ H Q I h
  obtain ⟨v, e, h⟩ := h
  obtain ⟨m, hn, hl⟩ := I.loc
  obtain ⟨u, r, l⟩ := hl i x v hN e hv
  have fin : EP X pins σ Q u s := ⟨v, H, I, r, h⟩
  rcases l with ⟨hk, hm⟩ | ⟨hk, c, hc, hcell⟩
  · exact wpAny_Name (wpAny_loadName_local I.ok.kind hk hn hm fin) hd
  · rcases hk with hk | hk
    · exact wpAny_Name (wpAny_loadName_cell I.ok.kind hk hc hcell fin) hd
    · exact wpAny_Name (wpAny_loadName_free I.ok.kind hk hc hcell fin hcd) hd
theorem pe_int {i j pos} : PE X (.Constant (.int i) j pos) (tC (.int i)) := fun _ _ _ H _ I h => wpAny_Constant_int ⟨.int i, H, I.tok _, ⟨_, rfl⟩, h⟩
theorem pe_bl {b j pos} : PE X (.Constant (.bool b) j pos) (tC (.bl b)) := fun _ _ _ H _ I h => Constant_bool ⟨.bl b, H, I, rfl, h⟩
theorem pe_non {j pos} : PE X (.Constant .none j pos) (tC .non) := fun _ _ _ H _ I h => Constant_none ⟨.non, H, I, rfl, h⟩
theorem pe_str {x j pos} : PE X (.Constant (.str x) j pos) (tC (.str x)) := fun _ _ _ H _ I h => Calls.Constant_str ⟨.str x, H, I.tok _, ⟨_, rfl⟩, h⟩
def Gl (X : Cx) (x : Str) : Prop := X.env.kindOf x = some .globalImplicit
theorem ld_glob {E : Value → Shared → Prop} {pins : List (Addr × Obj)} {s : Shared} {σ : St} {H : Hp} {x : Str} {u : Value} {pos : Pos} {Q : Value → Shared → Prop} (I : Inv X pins σ H s) (hg : Gl X x) (hm : X.mg x = some u) (h : Q u s)
    (hd : (x == ("__debug__" : Str)) = false := by decide) : wpAny (model X.prog X.w) X.A (eval (.Name x pos) X.env) Q E s :=
  Calls.Name_function_global I.ok.kind hg (Calls.loadGlobal_global (by rw [I.ok.glob]; exact I.mod.glob.keeps I.bk) hm h) hd
theorem ld_blt {E : Value → Shared → Prop} {pins : List (Addr × Obj)} {s : Shared} {σ : St} {H : Hp} {x : Str} {u : Value} {pos : Pos} {Q : Value → Shared → Prop} (I : Inv X pins σ H s) (hg : Gl X x) (hm : X.mg x = none) (hv : bootBuiltins x = some u) (h : Q u s)
    (hn : x ≠ "__name__" := by decide) (hd : (x == ("__debug__" : Str)) = false := by decide) : wpAny (model X.prog X.w) X.A (eval (.Name x pos) X.env) Q E s := by
  obtain ⟨mb, h1, h2⟩ := I.mod.blt
  exact Calls.Name_function_global I.ok.kind hg (Calls.loadGlobal_builtin (by rw [I.ok.glob]; exact I.mod.glob.keeps I.bk) hm (by rw [I.ok.blt]; exact h1.keeps I.bk) ((h2 x hn).trans hv) h) hd
theorem pe_bltn {x : Str} {v : V} {u : Value} {pos : Pos} (hg : Gl X x) (hm : X.mg x = none) (hv : bootBuiltins x = some u) (r : RelV v u) (hn : x ≠ "__name__" := by decide) (hd : (x == ("__debug__" : Str)) = false := by decide) : PE X (.Name x pos) (tC v) :=
  fun _ _ _ H _ I h => ld_blt I hg hm hv ⟨v, H, I, r, h⟩ hn hd
variable {a b : Expr} {ta tb : TE} {pos : Pos}
def PC (X : Cx) (op : CmpOp) (a b : Expr) (t : TE) : Prop :=
  ∀ (pins : List (Addr × Obj)) (s : Shared) (σ : St) (H : Hp) (Q : VK), Inv X pins σ H s → t σ H Q →
    wpAny (model X.prog X.w) X.A (eval a X.env) (fun v s₁ => wpAny (model X.prog X.w) X.A (eval b X.env) (fun u s₂ => wpAny (model X.prog X.w) X.A (compareOp op v u) (EP X pins σ Q) X.xe s₂) X.xe s₁) X.xe s
def tIsN (ta : TE) : TE := fun σ H Q => ta σ H fun x H1 => Q (.bl (decide (x = .non))) H1
def tNotN (ta : TE) : TE := fun σ H Q => ta σ H fun x H1 => Q (.bl (!decide (x = .non))) H1
def tB (t : TE) : TT := fun σ H Q => t σ H fun x H1 => ∃ c, x = .bl c ∧ Q c H1
theorem pt_val {e : Expr} {t : TE} (h : PE X e t) (he : ∀ whole, isTrue e X.env whole = (do let v ← whole; standAt e.pos; holding [v] (truthy v)) := by intro _; rfl) : PT X e (tB t) := by
  intro pins s σ H Q I hw
  refine isTrue_plain (thn (h pins s σ H _ I hw) fun v s1 ⟨x, H1, I1, r1, q1⟩ => ?_) (he _)
  obtain ⟨d, rfl, q⟩ := q1
  cases r1
  exact wpAny_truthy_bool ⟨H1, I1, q⟩
variable {tA tB' : TT} {rest : List Expr}
def tAnd (t u : TT) : TT := fun σ H Q => t σ H fun c H1 => if c = true then u σ H1 Q else Q false H1
def tOr (t u : TT) : TT := fun σ H Q => t σ H fun c H1 => if c = true then Q true H1 else u σ H1 Q
def tNot (t : TT) : TT := fun σ H Q => t σ H fun c H1 => Q (!c) H1
theorem pw_and1 (ha : PT X a tA) : PW X (.BoolOp .And [a] pos) tA := by
  intro wh pins s σ H Q I h
  refine isTrue_and (thn (ha pins s σ H Q I h) fun c s1 e => ?_)
  cases c with
  | true => exact isTrue_and_nil e
  | false => exact e
theorem pw_or1 (ha : PT X a tA) : PW X (.BoolOp .Or [a] pos) tA := by
  intro wh pins s σ H Q I h
  refine isTrue_or (thn (ha pins s σ H Q I h) fun c s1 e => ?_)
  cases c with
  | false => exact isTrue_or_nil e
  | true => exact e
theorem pw_and (ha : PT X a tA) (hb : PW X (.BoolOp .And (b :: rest) pos) tB') : PW X (.BoolOp .And (a :: b :: rest) pos) (tAnd tA tB') := by
  intro wh pins s σ H Q I h
  refine isTrue_and (thn (ha pins s σ H _ I h) fun c s1 ⟨H1, I1, q1⟩ => ?_)
  cases c with
  | true => exact hb wh pins s1 σ H1 Q I1 q1
  | false => exact ⟨H1, I1, q1⟩
theorem pw_or (ha : PT X a tA) (hb : PW X (.BoolOp .Or (b :: rest) pos) tB') : PW X (.BoolOp .Or (a :: b :: rest) pos) (tOr tA tB') := by
  intro wh pins s σ H Q I h
  refine isTrue_or (thn (ha pins s σ H _ I h) fun c s1 ⟨H1, I1, q1⟩ => ?_)
  cases c with
  | true => exact ⟨H1, I1, q1⟩
  | false => exact hb wh pins s1 σ H1 Q I1 q1
theorem pt_not (ha : PT X a tA) : PT X (.UnaryOp .Not a pos) (tNot tA) := by
  intro pins s σ H Q I h
  exact isTrue_not (ha pins s σ H (fun c H1 => Q (!c) H1) I h)
def tAndV (ta tb : TE) : TE := fun σ H Q => ta σ H fun x H1 => ∃ c, x = .bl c ∧ if c = true then tb σ H1 Q else Q (.bl false) H1
def tOrV (ta tb : TE) : TE := fun σ H Q => ta σ H fun x H1 => ∃ c, x = .bl c ∧ if c = true then Q (.bl true) H1 else tb σ H1 Q
def tNotV (ta : TE) : TE := fun σ H Q => ta σ H fun x H1 => ∃ c, x = .bl c ∧ Q (.bl (!c)) H1
def tIf (t : TT) (ta tb : TE) : TE := fun σ H Q => t σ H fun c H1 => if c = true then ta σ H1 Q else tb σ H1 Q
theorem pe_ifExp {c : Expr} (hc : PT X c tA) (ha : PE X a ta) (hb : PE X b tb) : PE X (.IfExp c a b pos) (tIf tA ta tb) := by
  intro pins s σ H Q I h
  refine wpAny_IfExp (thn (hc pins s σ H _ I h) fun d s1 ⟨H1, I1, q1⟩ => ?_)
  cases d with
  | true => exact ha pins s1 σ H1 Q I1 q1
  | false => exact hb pins s1 σ H1 Q I1 q1
end
end L2
namespace L2
open PySem PySem.Spec PyProof.Rows
def SqL (K : PySem.W.Frag) (H : Hp) (a : Addr) (xs : List V) : Prop :=
  Rd H a (.lst xs) ∨
    ∃ (o : Obj) (its : Array Value) (n : Nat), K.lookup a = some o ∧ o.cls = .type "list" ∧ o.dict = none ∧ o.data = .seq its n ∧ its.size ≤ sizeLine ∧ Vals xs its.toList
def SqT (K : PySem.W.Frag) (H : Hp) (a : Addr) (xs : List V) : Prop :=
  Rd H a (.tup xs) ∨
    ∃ (o : Obj) (its : Array Value) (n : Nat), K.lookup a = some o ∧ o.cls = .type "tuple" ∧ o.data = .seq its n ∧ its.size ≤ sizeLine ∧ Vals xs its.toList
def absV : Value → Option V
  | .none => some .non
  | .bool b => some (.bl b)
  | .int i _ => some (.int i)
  | .str x _ => some (.str x)
  | .bytes b _ => some (.byt b)
  | .float b _ => some (.flt b)
  | .ref a => some (.ref a)
  | .type n => some (.ty n)
  | _ => none
theorem RelV.abs {x : V} {u : Value} (r : RelV x u) : absV u = some x := by
  cases x with
  | non => cases r; rfl
  | bl _ => cases r; rfl
  | int _ => obtain ⟨t, rfl⟩ := r; rfl
  | str _ => obtain ⟨t, rfl⟩ := r; rfl
  | byt _ => obtain ⟨t, rfl⟩ := r; rfl
  | flt _ => obtain ⟨t, rfl⟩ := r; rfl
  | ref _ => cases r; rfl
  | ty _ => cases r; rfl
theorem RelV.inj {x y : V} {u : Value} (r : RelV x u) (q : RelV y u) : x = y := Option.some.inj (r.abs.symm.trans q.abs)
theorem Vals.inj : ∀ {xs ys : List V} {us : List Value}, Vals xs us → Vals ys us → xs = ys
  | _, _, _, .nil, .nil => rfl
  | _, _, _, .cons r t, .cons r' t' => by rw [r.inj r', Vals.inj t t']
section
variable {X : Cx} {pins : List (Addr × Obj)} {σ : St} {H : Hp} {s : Shared} {a : Addr} {xs ys : List V}
theorem SqL.of {K : PySem.W.Frag} (h : H a = some (.lst xs)) : SqL K H a xs := .inl (.inl h)
theorem SqT.of {K : PySem.W.Frag} (h : H a = some (.tup xs)) : SqT K H a xs := .inl (.inl h)
theorem Inv.list (I : Inv X pins σ H s) (h : SqL X.K H a xs) : ∃ its : List Value, Vals xs its ∧ PlainL s.heap a its.toArray ∧ xs.length ≤ sizeLine := by
  rcases h with h | ⟨o, its, n, hk, hc, hd, hs, hz, r⟩
  · obtain ⟨z, its, n, r, e⟩ := h.ok I.hok
    exact ⟨its, r, ⟨_, n, e, rfl, rfl, rfl⟩, z⟩
  · refine ⟨its.toList, r, ⟨o, n, I.kIn a o hk, hc, hd, by simpa using hs⟩, ?_⟩
    have e := r.length
    simp only [Array.length_toList] at e
    omega
theorem Inv.tuple (I : Inv X pins σ H s) (h : SqT X.K H a xs) : ∃ its : List Value, Vals xs its ∧ IsTup s.heap a its.toArray ∧ xs.length ≤ sizeLine := by
  rcases h with h | ⟨o, its, n, hk, hc, hs, hz, r⟩
  · obtain ⟨z, its, r, p⟩ := h.ok I.hok
    exact ⟨its, r, p, z⟩
  · refine ⟨its.toList, r, ⟨o, I.kIn a o hk, hc, n, by simpa using hs⟩, ?_⟩
    have e := r.length
    simp only [Array.length_toList] at e
    omega
theorem Inv.list_inj (I : Inv X pins σ H s) (h : SqL X.K H a xs) (h' : SqL X.K H a ys) : xs = ys := by
  obtain ⟨its, r, ⟨o, n, e, _, _, d⟩, _⟩ := I.list h
  obtain ⟨its', r', ⟨o', n', e', _, _, d'⟩, _⟩ := I.list h'
  rw [e] at e'; cases e'
  rw [d] at d'
  injection d' with d1 _
  have : its = its' := by simpa using congrArg Array.toList d1
  subst this
  exact r.inj r'
theorem Inv.tuple_inj (I : Inv X pins σ H s) (h : SqT X.K H a xs) (h' : SqT X.K H a ys) : xs = ys := by
  obtain ⟨its, r, ⟨o, e, _, n, d⟩, _⟩ := I.tuple h
  obtain ⟨its', r', ⟨o', e', _, n', d'⟩, _⟩ := I.tuple h'
  rw [e] at e'; cases e'
  rw [d] at d'
  injection d' with d1 _
  have : its = its' := by simpa using congrArg Array.toList d1
  subst this
  exact r.inj r'
end
abbrev Cx.wish (X : Cx) (E : Value → Shared → Prop) : Cx := { X with xe := E }
abbrev Cx.nox (X : Cx) : Cx := X.wish fun _ _ => False
theorem Cx.Ok.wish {X : Cx} (ok : X.Ok) (E : Value → Shared → Prop) : (X.wish E).Ok :=
  ⟨ok.mod, ok.kind, ok.glob, ok.blt, ok.above, ok.inj, ok.has, ok.cab, ok.hd, ok.frames, ok.stk, ok.exf, ok.bs, ok.bsz, ok.noex, ok.exfs, ok.funs, ok.frf⟩
theorem Cx.Ok.unwish {X : Cx} {E : Value → Shared → Prop} (ok : (X.wish E).Ok) : X.Ok :=
  ⟨ok.mod, ok.kind, ok.glob, ok.blt, ok.above, ok.inj, ok.has, ok.cab, ok.hd, ok.frames, ok.stk, ok.exf, ok.bs, ok.bsz, ok.noex, ok.exfs, ok.funs, ok.frf⟩
section
variable {X : Cx} {pins : List (Addr × Obj)} {σ : St} {H : Hp} {s : Shared} {E : Value → Shared → Prop}
theorem Inv.wish (I : Inv X pins σ H s) (E : Value → Shared → Prop) : Inv (X.wish E) pins σ H s := ⟨I.ok.wish E, I.os, I.bare, I.base, I.loc, I.cell, I.free, I.freeC, I.pin, I.hok, I.len⟩
theorem Inv.unwish (I : Inv (X.wish E) pins σ H s) : Inv X pins σ H s := ⟨I.ok.unwish, I.os, I.bare, I.base, I.loc, I.cell, I.free, I.freeC, I.pin, I.hok, I.len⟩
theorem SP.unwish {D : Ends} {f : Flow} {s' : Shared} (h : SP (X.wish E) pins D f s') : SP X pins D f s' := by
  cases f with
  | next => obtain ⟨σ', H', I, q⟩ := h; exact ⟨σ', H', I.unwish, q⟩
  | brk => obtain ⟨σ', H', I, q⟩ := h; exact ⟨σ', H', I.unwish, q⟩
  | cont => obtain ⟨σ', H', I, q⟩ := h; exact ⟨σ', H', I.unwish, q⟩
  | ret u => obtain ⟨v, σ', H', I, r, q⟩ := h; exact ⟨v, σ', H', I.unwish, r, q⟩
theorem PSs.nox {st : List Stmt} {t : TS} (h : PSs X.nox st t) : PSs X st t := fun pins s σ H D I hw =>
  wpAny_mono (h pins s σ H D (I.wish _) hw) (fun _ _ q => q.unwish) fun _ _ z => False.elim z
end
section
variable {X : Cx} {st : Stmt} {rest : List Stmt} {t u : TS} {e : Expr} {te : TE} {pos : Pos}
def tNext : TS := fun D σ H => D.nx σ H
def tSeq (t u : TS) : TS := fun D σ H => t { D with nx := u D } σ H
theorem pss_nil : PSs X [] tNext := fun _ _ σ H _ I h => wpAny_execs_nil ⟨σ, H, I, h⟩
theorem pss_cons (h1 : PS X st t) (h2 : PSs X rest u) : PSs X (st :: rest) (tSeq t u) := by
  intro pins s σ H D I h
  refine wpAny_execs_cons (thn (h1 pins s σ H { D with nx := u D } I h) fun f s1 q => ?_)
  cases f with
  | next =>
    obtain ⟨σ', H', I', q⟩ := q
    exact h2 pins s1 σ' H' D I' q
  | ret v => exact q
  | brk => exact q
  | cont => exact q
theorem pss_one (h1 : PS X st t) : PSs X [st] t := by
  intro pins s σ H D I h
  refine wpAny_execs_cons (thn (h1 pins s σ H D I h) fun f s1 q => ?_)
  cases f with
  | next => exact wpAny_execs_nil q
  | ret v => exact q
  | brk => exact q
  | cont => exact q
def tBreak : TS := fun D σ H => D.bk σ H
def tCont : TS := fun D σ H => D.ct σ H
theorem Inv.quiet {pins : List (Addr × Obj)} {σ : St} {H : Hp} {s : Shared} (I : Inv X pins σ H s) : interactive X.env = false := by simp [interactive, I.ok.kind]
def tDrop (te : TE) : TS := fun D σ H => te σ H fun _ H1 => D.nx σ H1
theorem ps_expr (he : PE X e te) (hs : swapsWith e none pos.line X.env = pure false := by rfl) : PS X (.Expr e pos) (tDrop te) := by
  intro pins s σ H D I h
  exact wpAny_Expr_any (thn (he pins s σ H _ I h) fun v s1 ⟨x, H1, I1, r1, q1⟩ => ⟨σ, H1, I1, q1⟩) I.quiet hs
def tRet (te : TE) : TS := fun D σ H => te σ H D.rt
theorem ps_ret (he : PE X e te) : PS X (.Return (some e) pos) (tRet te) := by
  intro pins s σ H D I h
  exact wpAny_Return_some (thn (he pins s σ H _ I h) fun v s1 ⟨x, H1, I1, r1, q1⟩ => ⟨x, σ, H1, I1, r1, q1⟩)
def tRetN : TS := fun D _ H => D.rt .non H
def tIfS (c : TT) (t u : TS) : TS := fun D σ H => c σ H fun b H1 => if b = true then t D σ H1 else u D σ H1
theorem ps_if {c : Expr} {a b : List Stmt} {tc : TT} (hc : PT X c tc) (ha : PSs X a t) (hb : PSs X b u) : PS X (.If c a b pos) (tIfS tc t u) := by
  intro pins s σ H D I h
  refine wpAny_If (thn (hc pins s σ H _ I h) fun d s1 ⟨H1, I1, q1⟩ => ?_)
  cases d with
  | true => exact ha pins s1 σ H1 D I1 q1
  | false => exact hb pins s1 σ H1 D I1 q1
end
abbrev TG := V → St → Hp → (St → Hp → Prop) → Prop
abbrev TGs := List V → St → Hp → (St → Hp → Prop) → Prop
def PG (X : Cx) (target : Expr) (t : TG) : Prop :=
  ∀ (pins : List (Addr × Obj)) (s : Shared) (σ : St) (H : Hp) (v : V) (u : Value) (Q : St → Hp → Prop), Inv X pins σ H s → RelV v u → t v σ H Q →
    wpAny (model X.prog X.w) X.A (assign target X.env u) (fun _ s' => ∃ σ' H', Inv X pins σ' H' s' ∧ Q σ' H') X.xe s
def PGs (X : Cx) (ts : List Expr) (t : TGs) : Prop :=
  ∀ (pins : List (Addr × Obj)) (s : Shared) (σ : St) (H : Hp) (vs : List V) (us : List Value) (Q : St → Hp → Prop), Inv X pins σ H s → Vals vs us → t vs σ H Q →
    wpAny (model X.prog X.w) X.A (assignInOrder ((assignEach ts X.env).map (·.2)) us) (fun _ s' => ∃ σ' H', Inv X pins σ' H' s' ∧ Q σ' H') X.xe s
abbrev TSet := V → V → V → Hp → (Hp → Prop) → Prop
def PSet (X : Cx) (t : TSet) : Prop :=
  ∀ (pins : List (Addr × Obj)) (s : Shared) (σ : St) (H : Hp) (o i v : V) (ov iv u : Value) (Q : Hp → Prop), Inv X pins σ H s → RelV o ov → RelV i iv → RelV v u → t o i v H Q →
    wpAny (model X.prog X.w) X.A (setItem ov iv u) (fun _ s' => ∃ H', Inv X pins σ H' s' ∧ Q H') X.xe s
abbrev TIp := V → V → Hp → VK → Prop
section
variable {X : Cx} {pos : Pos}
def gName (i : Nat) : TG := fun v σ H Q => Q (σ.set i (some v)) H
theorem pg_name {i : Nat} {x : Str} (hN : X.N.Nodup) (hi : X.N[i]? = some x) (hx : Loc X.env.scope x) (hf : X.fn x = true ∨ X.env.scope.names.lookup x = some .local := by first | exact .inl rfl | exact .inr rfl | assumption) : PG X (.Name x pos) (gName i) := by
  intro pins s σ H v u Q I r h
  exact wpAny_assign_Name (store_ok I hN hi hx r (fun s' I' => ⟨_, H, I', h⟩) hf)
def gNil : TGs := fun vs σ H Q => vs = [] ∧ Q σ H
def gCons (t : TG) (u : TGs) : TGs := fun vs σ H Q => ∃ v r, vs = v :: r ∧ t v σ H fun σ' H' => u r σ' H' Q
theorem pgs_nil : PGs X [] gNil := by
  intro pins s σ H vs us Q I r h
  obtain ⟨e, h⟩ := h
  subst e
  cases r
  exact assignInOrder_nil ⟨σ, H, I, h⟩
theorem pgs_cons {e : Expr} {es : List Expr} {t : TG} {u : TGs} (h1 : PG X e t) (h2 : PGs X es u)
    (hs : (assignEach (e :: es) X.env).map (·.2) = assign e X.env :: (assignEach es X.env).map (·.2) := by rfl) : PGs X (e :: es) (gCons t u) := by
  intro pins s σ H vs us Q I r h
  obtain ⟨v, vr, e1, h⟩ := h
  subst e1
  cases r with
  | cons r rr =>
    rw [hs]
    refine assignInOrder_cons (thn (h1 pins s σ H _ _ _ I r h) fun _ s1 ⟨σ1, H1, I1, q1⟩ => ?_)
    exact h2 pins s1 σ1 H1 _ _ Q I1 rr q1
def gTup (K : PySem.W.Frag) (n : Nat) (t : TGs) : TG := fun v σ H Q => ∃ a xs, v = .ref a ∧ SqT K H a xs ∧ xs.length = n ∧ t xs σ H Q
theorem pg_tup {es : List Expr} {k : Nat} {t : TGs} {n : Nat} (hc : X.calm = true) (h : PGs X es t)
    (hn : (assignEach es X.env).length = n := by rfl) (hst : (assignEach es X.env).findIdx? (·.1) = none := by rfl) : PG X (.Tuple es k pos) (gTup X.K n t) := by
  intro pins s σ H v u Q I r hw
  obtain ⟨a, xs, e1, hq, hl, hw⟩ := hw
  subst e1
  cases r
  obtain ⟨its, rv, ht, hz⟩ := I.tuple hq
  refine assign_Tuple_tuple (I.ok.hd hc) ht (by simp [hn, ← hl, rv.length]) hst fun h' hx => ?_
  have I1 : Inv X pins σ H { s with heap := h' } := I.kept (t' := s.toks) fun b o e => hx b o (Nat.ne_of_lt (Heap.lt_size e)) e
  exact h pins _ σ H xs _ Q I1 (by simpa using rv) hw
def gSub (to ti : TE) (t : TSet) : TG := fun v σ H Q => to σ H fun o H1 => ti σ H1 fun i H2 => t o i v H2 fun H3 => Q σ H3
theorem pg_sub {o i : Expr} {to ti : TE} {t : TSet} (ho : PE X o to) (hi : PE X i ti) (hs : PSet X t)
    (ha : ∀ v, assign (.Subscript o i pos) X.env v = (do
      let ov ← holding [v] (eval o X.env)
      let iv ← holding [v, ov] (eval i X.env)
      standAt pos
      holding [v, ov, iv] (setItem ov iv v)
      release [v, ov, iv] []) := by intro _; rfl) : PG X (.Subscript o i pos) (gSub to ti t) := by
  intro pins s σ H v u Q I r h
  rw [ha]
  refine wpAny_bind (wpAny_holding (thn (ho pins s σ H _ I h) fun ov s1 ⟨x, H1, I1, r1, q1⟩ => ?_))
  refine wpAny_bind (wpAny_holding (thn (hi pins s1 σ H1 _ I1 q1) fun iv s2 ⟨y, H2, I2, r2, q2⟩ => ?_))
  refine wpAny_bind (wpAny_standAt (wpAny_bind (wpAny_holding (thn (hs pins s2 σ H2 x y v ov iv u _ I2 r1 r2 r q2) fun _ s3 ⟨H3, I3, q3⟩ => ?_))))
  exact wpAny_release ⟨σ, H3, I3, q3⟩
def tAsg (te : TE) (g : TG) : TS := fun D σ H => te σ H fun x H1 => g x σ H1 D.nx
theorem ps_asg {tg e : Expr} {te : TE} {g : TG} (he : PE X e te) (hg : PG X tg g) (hs : swapsWithSole [tg] e pos.line X.env = pure false := by rfl) (hw : swappedStores [tg] e X.env = pure none := by rfl)
    (h1 : (assignEach [tg] X.env).map (·.2) = [assign tg X.env] := by rfl) : PS X (.Assign [tg] e pos) (tAsg te g) := by
  intro pins s σ H D I h
  refine wpAny_Assign_stores (thn (he pins s σ H _ I h) fun v s1 ⟨x, H1, I1, r1, q1⟩ => ?_) hs hw
  rw [h1]
  exact thn (hg pins s1 σ H1 x v _ I1 r1 q1) fun _ s2 q => q
theorem ps_set {i : Nat} {x : Str} {e : Expr} {te : TE} {pos' : Pos} (hN : X.N.Nodup) (hi : X.N[i]? = some x) (hx : Loc X.env.scope x) (he : PE X e te) (hs : swapsWith e (some (.Name x pos')) pos.line X.env = pure false := by rfl) (hf : X.fn x = true ∨ X.env.scope.names.lookup x = some .local := by first | exact .inl rfl | exact .inr rfl | assumption) :
    PS X (.Assign [.Name x pos'] e pos) (tAsg te (gName i)) := by
  intro pins s σ H D I h
  refine wpAny_Assign_Name (thn (he pins s σ H _ I h) fun v s1 ⟨y, H1, I1, r1, q1⟩ => ?_) hs
  exact store_ok I1 hN hi hx r1 (fun s2 I2 => ⟨_, H1, I2, q1⟩) hf
def tAug (i : Nat) (te : TE) (ti : TIp) : TS := fun D σ H => ∃ x, σ[i]? = some (some x) ∧ te σ H fun y H1 => ti x y H1 fun z H2 => D.nx (σ.set i (some z)) H2
def ipI (f : Int → Int → Int) : TIp := fun x y H Q => ∃ i j, x = .int i ∧ y = .int j ∧ Q (.int (f i j)) H
end
section
variable {X : Cx} {pos : Pos}
end
structure It where
  go : Nat → Hp → Prop
  yld : Nat → Hp → V → Hp → Prop
  stop : Nat → Hp → Prop
def FpOk (X : Cx) (pins : List (Addr × Obj)) (H : Hp) (b : Addr) : Prop :=
  H b = none ∧ b ≠ X.env.locals ∧ b ∉ X.fs ∧ (b ∈ X.ex ∨ X.s₀.heap.objs.size ≤ b) ∧ (∀ x c, X.env.cells.lookup x = some c → c ≠ b) ∧ ∀ p ∈ X.pn ++ pins, p.1 ≠ b
theorem Inv.fpOk {X : Cx} {pins : List (Addr × Obj)} {σ : St} {H H' : Hp} {s : Shared} {b : Addr} (I : Inv X pins σ H s) (hb : s.heap.objs.size ≤ b) (hn : H' b = none) : FpOk X pins H' b := by
  refine ⟨hn, Nat.ne_of_gt (Nat.lt_of_lt_of_le I.lt hb), I.nofs hb, .inr (Nat.le_trans I.sz hb), fun x c e z => ?_, fun p hp z => ?_⟩
  · obtain ⟨v, q⟩ := I.cell x c e
    exact absurd (Nat.lt_of_lt_of_le q.lt (by rw [z]; exact hb)) (Nat.lt_irrefl _)
  · exact absurd (Nat.lt_of_lt_of_le (Heap.lt_size (I.pin p hp).1) (by rw [z]; exact hb)) (Nat.lt_irrefl _)
structure Turn (P : Program) (w : World) (K : PySem.W.Frag) (tg : Expr) (J : It) (fp : List Addr) (it : Addr) (tn : Nat → Heap → Prop) : Prop where
  mem : it ∈ fp
  obj : ∀ i h, tn i h → ∀ b ∈ fp, ∃ o, h.get? b = some o ∧ ∀ v, o.data ≠ .cell v
  keep : ∀ i h h', tn i h → (∀ b ∈ fp, ∀ o, h.get? b = some o → h'.get? b = some o) → tn i h'
  item : ∀ (X : Cx), X.prog = P → X.w = w → X.K = K → X.calm = true → ∀ (i : Nat) (pins : List (Addr × Obj)) (s : Shared) (σ : St) (H : Hp) (E : Value → Shared → Prop), Inv X pins σ H s → (∀ b ∈ fp, FpOk X pins H b) → tn i s.heap → J.go i H →
    wpAny (model P w) X.A (pyNext (.ref it)) (fun r s1 => ∃ u, r = some u ∧
      wpAny (model P w) X.A (letOwnedTupleGo tg (.ref it) u) (fun _ s2 => ∃ x H', Inv X pins σ H' s2 ∧ RelV x u ∧ J.yld i H x H' ∧ tn (i + 1) s2.heap ∧ ∀ b ∈ fp, H' b = none) E s1) E s
  done : ∀ (X : Cx), X.prog = P → X.w = w → X.K = K → X.calm = true → ∀ (i : Nat) (pins : List (Addr × Obj)) (s : Shared) (σ : St) (H : Hp) (E : Value → Shared → Prop), Inv X pins σ H s → (∀ b ∈ fp, FpOk X pins H b) → tn i s.heap → J.stop i H →
    wpAny (model P w) X.A (pyNext (.ref it)) (fun r s1 => r = none ∧ Inv X pins σ H s1) E s
  self : ∀ (A : Around) (i : Nat) (s : Shared) (Q : Value → Shared → Prop) (E : Value → Shared → Prop), tn i s.heap → Q (.ref it) s → wpAny (model P w) A (pyIter (.ref it)) Q E s
abbrev TI := St → Hp → (It → Hp → Prop) → Prop
def PIE (X : Cx) (pins : List (Addr × Obj)) (σ : St) (tg : Expr) (R : It → Hp → Prop) (itv : Value) (s2 : Shared) : Prop :=
  ∃ (it : Addr) (fp : List Addr) (tn : Nat → Heap → Prop) (J : It) (H' : Hp), itv = .ref it ∧ Inv X pins σ H' s2 ∧ Turn X.prog X.w X.K tg J fp it tn ∧ tn 0 s2.heap ∧ (∀ b ∈ fp, FpOk X pins H' b) ∧ R J H'
def PI (X : Cx) (tg iter : Expr) (wi : TI) : Prop :=
  ∀ (pins : List (Addr × Obj)) (s : Shared) (σ : St) (H : Hp) (R : It → Hp → Prop), Inv X pins σ H s → wi σ H R →
    wpAny (model X.prog X.w) X.A (eval iter X.env) (fun v s1 => wpAny (model X.prog X.w) X.A (pyIter v) (PIE X pins σ tg R) X.xe s1) X.xe s
theorem go_of {M : Model} {A : Around} {E : Value → Shared → Prop} {s : Shared} {tg : Expr} {it : Addr} {u : Value} {o : Obj} {n : String} {vs : Array Value} {Q : Unit → Shared → Prop} (ho : s.heap.get? it = some o) (hc : o.cls = .type n) (hd : o.data = .fields vs)
    (hn : ["enumerate", "zip", "dict_itemiterator", "dict_reverseitemiterator", "odict_iterator", "itertools.zip_longest", "itertools.pairwise"].contains n = false) (hQ : Q () s) : wpAny M A (letOwnedTupleGo tg (.ref it) u) Q E s := by
  unfold letOwnedTupleGo
  cases tg <;> first
    | exact wpAny_pure hQ
    | (cases u <;> first
        | exact wpAny_pure hQ
        | (refine wpAny_bind (wpAny_load ho ?_)
           rw [hc, hd]
           show wpAny M A (if (["enumerate", "zip", "dict_itemiterator", "dict_reverseitemiterator", "odict_iterator", "itertools.zip_longest", "itertools.pairwise"].contains n && vs[0]? == some (rawInt _)) = true then _ else _) Q E s
           rw [if_neg (by intro h; rw [hn, Bool.false_and] at h; cases h)]
           exact wpAny_pure hQ))
def Itl (K : PySem.W.Frag) (a : Addr) : It :=
  ⟨fun i H => ∃ xs x, SqL K H a xs ∧ xs[i]? = some x, fun i H x H' => H' = H ∧ ∀ xs, SqL K H a xs → xs[i]? = some x, fun i H => ∃ xs, SqL K H a xs ∧ xs.length ≤ i⟩
def Itt (K : PySem.W.Frag) (a : Addr) : It :=
  ⟨fun i H => ∃ xs x, SqT K H a xs ∧ xs[i]? = some x, fun i H x H' => H' = H ∧ ∀ xs, SqT K H a xs → xs[i]? = some x, fun i H => ∃ xs, SqT K H a xs ∧ xs.length ≤ i⟩
def Itr (lo : Int) (n : Nat) : It := ⟨fun i _ => i < n, fun i H x H' => H' = H ∧ x = .int (lo + i), fun i _ => n ≤ i⟩
theorem turn_list {P : Program} {w : World} {K : PySem.W.Frag} {tg : Expr} (a it : Addr) : Turn P w K tg (Itl K a) [it] it (fun i h => h.IsListIter it a i) where
  mem := by simp
  obj := fun i h st b hb => by
    have e : b = it := by simpa using hb
    subst e
    obtain ⟨o, e, c, d⟩ := st
    exact ⟨o, e, fun v z => by rw [d] at z; cases z⟩
  keep := fun i h h' st k => st.at fun o e => k it (by simp) o e
  item := by
    intro X hP hw hK hc i pins s σ H E I hf st hg
    subst hP hw hK
    obtain ⟨xs, x, hq, hx⟩ := hg
    obtain ⟨its, rv, p, hz⟩ := I.list hq
    obtain ⟨u, hu, ru⟩ := rv.get hx
    obtain ⟨f0, f1, f2, f3, f4, f5⟩ := hf it (by simp)
    refine wpAny_pyNext_list_item st p.isList (x := u) (by simpa using hu) fun h' st' sb => ?_
    have I1 : Inv X pins σ H { s with heap := h' } := I.turned (t' := s.toks) (fun b o hb e => (sb.2 b hb).trans e) f0 f1 f3 f4 f5
    obtain ⟨o, e, c, d⟩ := id st'
    exact ⟨u, rfl, go_of (s := { s with heap := h' }) e c d (by decide) ⟨x, H, I1, ru, ⟨rfl, fun ys hy => by rw [I.list_inj hy hq]; exact hx⟩, st', fun b hb => (hf b hb).1⟩⟩
  done := by
    intro X hP hw hK hc i pins s σ H E I hf st hg
    subst hP hw hK
    obtain ⟨xs, hq, hx⟩ := hg
    obtain ⟨its, rv, p, hz⟩ := I.list hq
    obtain ⟨f0, f1, f2, f3, f4, f5⟩ := hf it (by simp)
    have hl := rv.length
    exact wpAny_pyNext_list_end (I.ok.hd hc) st p.isList (by simp; omega) fun h' eb => ⟨rfl, I.turned (t' := s.toks) (fun b o hb e => eb b o hb e) f0 f1 f3 f4 f5⟩
  self := fun _ _ _ _ _ st h => wpAny_pyIter_listiter st h
theorem turn_tuple {P : Program} {w : World} {K : PySem.W.Frag} {tg : Expr} (a it : Addr) : Turn P w K tg (Itt K a) [it] it (fun i h => h.IsTupleIter it a i) where
  mem := by simp
  obj := fun i h st b hb => by
    have e : b = it := by simpa using hb
    subst e
    obtain ⟨o, e, c, d⟩ := st
    exact ⟨o, e, fun v z => by rw [d] at z; cases z⟩
  keep := fun i h h' st k => st.at fun o e => k it (by simp) o e
  item := by
    intro X hP hw hK hc i pins s σ H E I hf st hg
    subst hP hw hK
    obtain ⟨xs, x, hq, hx⟩ := hg
    obtain ⟨its, rv, p, hz⟩ := I.tuple hq
    obtain ⟨u, hu, ru⟩ := rv.get hx
    obtain ⟨f0, f1, f2, f3, f4, f5⟩ := hf it (by simp)
    refine wpAny_pyNext_tuple_item st (show s.heap.IsTuple a its.toArray from p) (x := u) (by simpa using hu) fun h' st' sb => ?_
    have I1 : Inv X pins σ H { s with heap := h' } := I.turned (t' := s.toks) (fun b o hb e => (sb.2 b hb).trans e) f0 f1 f3 f4 f5
    obtain ⟨o, e, c, d⟩ := id st'
    exact ⟨u, rfl, go_of (s := { s with heap := h' }) e c d (by decide) ⟨x, H, I1, ru, ⟨rfl, fun ys hy => by rw [I.tuple_inj hy hq]; exact hx⟩, st', fun b hb => (hf b hb).1⟩⟩
  done := by
    intro X hP hw hK hc i pins s σ H E I hf st hg
    subst hP hw hK
    obtain ⟨xs, hq, hx⟩ := hg
    obtain ⟨its, rv, p, hz⟩ := I.tuple hq
    obtain ⟨f0, f1, f2, f3, f4, f5⟩ := hf it (by simp)
    have hl := rv.length
    exact wpAny_pyNext_tuple_end (I.ok.hd hc) st (show s.heap.IsTuple a its.toArray from p) (by simp; omega) fun h' eb => ⟨rfl, I.turned (t' := s.toks) (fun b o hb e => eb b o hb e) f0 f1 f3 f4 f5⟩
  self := fun _ _ _ _ _ st h => wpAny_pyIter_tupleiter st h
theorem turn_range {P : Program} {w : World} {K : PySem.W.Frag} {tg : Expr} (it : Addr) (lo : Int) (n : Nat) : Turn P w K tg (Itr lo n) [it] it (fun i h => IsRangeIter h it (lo + (i : Nat) * 1) ((n : Int) - (i : Nat)) 1) where
  mem := by simp
  obj := fun i h st b hb => by
    have e : b = it := by simpa using hb
    subst e
    exact ⟨_, st, fun v z => by
      have z' : Data.fields _ = Data.cell v := z
      cases z'⟩
  keep := fun i h h' st k => k it (by simp) _ st
  item := by
    intro X hP hw hK hc i pins s σ H E I hf st hg
    subst hP hw hK
    obtain ⟨f0, f1, f2, f3, f4, f5⟩ := hf it (by simp)
    have W := Walks.range (prog := X.prog) (w := X.w) (I.ok.hd hc) it lo 1 n
    refine W.item i s _ _ hg st fun v h' tk hv st' kk => ?_
    obtain ⟨t, rfl⟩ := hv
    have I1 : Inv X pins σ H { s with heap := h', toks := tk } := I.turned (fun b o hb e => kk b o (by simpa using hb) e) f0 f1 f3 f4 f5
    refine ⟨_, rfl, go_of (s := { s with heap := h', toks := tk }) (n := "range_iterator") st' rfl rfl (by decide) ⟨.int (lo + i), H, I1, ⟨t, ?_⟩, ⟨rfl, rfl⟩, st', fun b hb => (hf b hb).1⟩⟩
    rw [Int.mul_one]
  done := by
    intro X hP hw hK hc i pins s σ H E I hf st hg
    subst hP hw hK
    obtain ⟨f0, f1, f2, f3, f4, f5⟩ := hf it (by simp)
    exact wpAny_pyNext_range_end (I.ok.hd hc) st (by have : n ≤ i := hg; omega) fun h' eb => ⟨rfl, I.turned (t' := s.toks) (fun b o hb e => eb b o hb e) f0 f1 f3 f4 f5⟩
  self := fun _ _ _ _ _ st h => wpAny_pyIter_rangeiter st h
end L2
namespace L2
open PySem PySem.Spec PyProof.Rows
section
variable {X : Cx} {tg : Expr}
def iList (K : PySem.W.Frag) (tl : TE) : TI := fun σ H R => tl σ H fun x H1 => ∃ a, x = .ref a ∧ (∃ xs, SqL K H1 a xs) ∧ R (Itl K a) H1
def iTup (K : PySem.W.Frag) (tl : TE) : TI := fun σ H R => tl σ H fun x H1 => ∃ a, x = .ref a ∧ (∃ xs, SqT K H1 a xs) ∧ R (Itt K a) H1
theorem pi_list {l : Expr} {tl : TE} (hl : PE X l tl) : PI X tg l (iList X.K tl) := by
  intro pins s σ H R I h
  refine thn (hl pins s σ H _ I h) fun v s1 ⟨x, H1, I1, r1, q1⟩ => ?_
  obtain ⟨a, e, ⟨xs, hq⟩, q⟩ := q1
  subst e
  cases r1
  obtain ⟨its, rv, p, hz⟩ := I1.list hq
  refine wpAny_pyIter_list p.isList ?_
  refine ⟨s1.heap.objs.size, [s1.heap.objs.size], _, _, H1, rfl, I1.kept (t' := s1.toks) fun b o e => Heap.get?_push_of_some _ e, turn_list a _, ⟨_, Heap.get?_push_size _ rfl, rfl, rfl⟩, fun b hb => ?_, q⟩
  have e : b = s1.heap.objs.size := by simpa using hb
  subst e
  exact I1.fpOk (Nat.le_refl _) (I1.hok.fresh (Nat.le_refl _))
theorem pi_tup {l : Expr} {tl : TE} (hl : PE X l tl) : PI X tg l (iTup X.K tl) := by
  intro pins s σ H R I h
  refine thn (hl pins s σ H _ I h) fun v s1 ⟨x, H1, I1, r1, q1⟩ => ?_
  obtain ⟨a, e, ⟨xs, hq⟩, q⟩ := q1
  subst e
  cases r1
  obtain ⟨its, rv, p, hz⟩ := I1.tuple hq
  refine wpAny_pyIter_tuple (show s1.heap.IsTuple a its.toArray from p) ?_
  refine ⟨s1.heap.objs.size, [s1.heap.objs.size], _, _, H1, rfl, I1.kept (t' := s1.toks) fun b o e => Heap.get?_push_of_some _ e, turn_tuple a _, ⟨_, Heap.get?_push_size _ rfl, rfl, rfl⟩, fun b hb => ?_, q⟩
  have e : b = s1.heap.objs.size := by simpa using hb
  subst e
  exact I1.fpOk (Nat.le_refl _) (I1.hok.fresh (Nat.le_refl _))
theorem range_it {pins : List (Addr × Obj)} {σ : St} {H : Hp} {s : Shared} {R : It → Hp → Prop} {E : Value → Shared → Prop} {lo hi : Int} {t u v : Tok} {tk : Nat} (I : Inv X pins σ H s) (h1 : -(2 ^ 62) ≤ lo) (h2 : lo < 2 ^ 62) (h3 : -(2 ^ 62) ≤ hi) (h4 : hi < 2 ^ 62)
    (q : R (Itr lo (hi - lo).toNat) H) : wpAny (model X.prog X.w) X.A (pyIter (.ref s.heap.objs.size)) (PIE X pins σ tg R) E { s with heap := s.heap.push { cls := .type "range", data := .fields #[.int lo t, .int hi u, .int 1 v] }, toks := tk } := by
  refine wpAny_pyIter_range (IsRange.new ..) (small_one h1 h2 h3 h4) ?_
  have I1 : Inv X pins σ H { s with heap := s.heap.push { cls := .type "range", data := .fields #[.int lo t, .int hi u, .int 1 v] }, toks := tk } := I.kept fun b o e => Heap.get?_push_of_some _ e
  refine ⟨(s.heap.push { cls := .type "range", data := .fields #[.int lo t, .int hi u, .int 1 v] }).objs.size, [(s.heap.push { cls := .type "range", data := .fields #[.int lo t, .int hi u, .int 1 v] }).objs.size], _, _, H, rfl,
    I1.kept (t' := tk) fun b o e => Heap.get?_push_of_some _ e, turn_range _ lo (hi - lo).toNat, ?_, fun b hb => ?_, q⟩
  · have e1 : lo + ((0 : Nat) : Int) * 1 = lo := by simp
    have e2 : (((hi - lo).toNat : Nat) : Int) - ((0 : Nat) : Int) = Builtin.Range.rangeSize lo hi 1 := by rw [rangeSize_one]; split <;> omega
    show IsRangeIter _ _ (lo + ((0 : Nat) : Int) * 1) ((((hi - lo).toNat : Nat) : Int) - ((0 : Nat) : Int)) 1
    rw [e1, e2]
    exact Heap.get?_push_size _ rfl
  · have e : b = (s.heap.push { cls := .type "range", data := .fields #[.int lo t, .int hi u, .int 1 v] }).objs.size := by simpa using hb
    subst e
    exact I1.fpOk (Nat.le_refl _) (I1.hok.fresh (Nat.le_refl _))
def iRng1 (ta : TA) : TI := fun σ H R => ta σ H fun vs H1 => ∃ j : Int, vs = [.int j] ∧ -(2 ^ 62) ≤ j ∧ j < 2 ^ 62 ∧ R (Itr 0 j.toNat) H1
def iRng2 (ta : TA) : TI := fun σ H R => ta σ H fun vs H1 => ∃ i j : Int, vs = [.int i, .int j] ∧ (-(2 ^ 62) ≤ i ∧ i < 2 ^ 62 ∧ -(2 ^ 62) ≤ j ∧ j < 2 ^ 62) ∧ R (Itr i (j - i).toNat) H1
theorem pi_range1 {a : Expr} {ta : TA} {p pos : Pos} (hg : Gl X "range") (hm : X.mg "range" = none) (ha : PA X [a] ta) (hs : starEach [a] X.env = [(false, eval a X.env)] := by rfl) : PI X tg (.Call (.Name "range" p) [a] [] pos) (iRng1 ta) := by
  intro pins s σ H R I h
  refine Call_ (ld_blt I hg hm boot_range (PyProof.Rows.callWith_type1 (thn (ha pos pins s σ H _ I h) fun us s1 ⟨vs, H1, I1, r1, q1⟩ => ?_) hs rfl))
  obtain ⟨j, e, q1, q2, q⟩ := q1
  subst e
  cases r1 with
  | cons r rr =>
    cases rr
    obtain ⟨t, rfl⟩ := r
    exact call_range_1 (range_it I1 (by omega) (by omega) q1 q2 (by simpa using q))
def tFor (wi : TI) (g : TG) (tb : TS) : TS := fun D σ H => wi σ H fun J H1 => ∃ W : Nat → Nat → St → Hp → Prop, (∃ m, W 0 m σ H1) ∧ ∀ i m σ H, W i m σ H →
  (J.stop i H ∧ D.nx σ H) ∨ (J.go i H ∧ ∃ N : St → Hp → Prop, (∀ σ' H', N σ' H' → ∃ m', m' < m ∧ W (i + 1) m' σ' H') ∧ ∀ x H', J.yld i H x H' → g x σ H' fun σ2 H2 => tb { D with nx := N, ct := N, bk := D.nx } σ2 H2)
def pinsAt (fp : List Addr) (h : Heap) : List (Addr × Obj) := fp.filterMap fun b => (h.get? b).map fun o => (b, o)
theorem mem_pinsAt {fp : List Addr} {h : Heap} {b : Addr} {o : Obj} (hb : b ∈ fp) (e : h.get? b = some o) : (b, o) ∈ pinsAt fp h := List.mem_filterMap.mpr ⟨b, hb, by rw [e]; rfl⟩
theorem of_pinsAt {fp : List Addr} {h : Heap} {p : Addr × Obj} (hp : p ∈ pinsAt fp h) : p.1 ∈ fp ∧ h.get? p.1 = some p.2 := by
  obtain ⟨b, hb, e⟩ := List.mem_filterMap.mp hp
  cases q : h.get? b with
  | none => rw [q] at e; cases e
  | some o =>
    rw [q] at e
    have e' : (b, o) = p := Option.some.inj e
    subst e'
    exact ⟨hb, q⟩
theorem Inv.pinned {pins : List (Addr × Obj)} {σ : St} {H : Hp} {s : Shared} {fp : List Addr} (I : Inv X pins σ H s) (hf : ∀ b ∈ fp, FpOk X pins H b) (ho : ∀ b ∈ fp, ∃ o, s.heap.get? b = some o ∧ ∀ v, o.data ≠ .cell v) : Inv X (pins ++ pinsAt fp s.heap) σ H s :=
  I.pins_of fun p hp => (List.mem_append.mp hp).elim (fun z => I.pin p (List.mem_append_right _ z)) fun z => by
    obtain ⟨hb, e⟩ := of_pinsAt z
    obtain ⟨f0, f1, f2, _⟩ := hf p.1 hb
    obtain ⟨o, e', d⟩ := ho p.1 hb
    rw [e] at e'; cases e'
    exact ⟨e, f0, f1, f2, d⟩
theorem Inv.unpinned {pins pl : List (Addr × Obj)} {σ : St} {H : Hp} {s : Shared} (I : Inv X (pins ++ pl) σ H s) : Inv X pins σ H s := I.pins_of fun p hp => I.pin p (List.mem_append_right _ (List.mem_append_left _ hp))
theorem ps_for {iter : Expr} {body : List Stmt} {wi : TI} {g : TG} {tb : TS} {pos : Pos} (hp : PassesOwn (model X.prog X.w) X.A X.env X.xe) (hc : X.calm = true) (hi : PI X tg iter wi) (hg : PG X tg g) (hb : PSs X body tb)
    (hs : ∀ x, foldedSetIterable iter X.env x = pure x := by intro _; rfl) : PS X (.For tg iter body [] pos) (tFor wi g tb) := by
  intro pins s σ H D I h
  refine wpAny_For (thn (hi pins s σ H _ I h) fun v s1 h1 => thn h1 fun itv s2 h2 => ?_) hs
  obtain ⟨it, fp, tn, J, H2, e, I2, T, st2, f2, W, ⟨m0, w0⟩, turn⟩ := h2
  subst e
  -- what stays true of the iterator's objects through the loop
  have stat : ∀ {H' : Hp}, (∀ b ∈ fp, H' b = none) → ∀ b ∈ fp, FpOk X pins H' b := fun hn b hb => ⟨hn b hb, (f2 b hb).2⟩
  refine codeAny_forLoop_any (fun n s' => ∃ i σ' H', Inv X pins σ' H' s' ∧ tn i s'.heap ∧ (∀ b ∈ fp, H' b = none) ∧ W i n σ' H') ?_ m0 ⟨0, σ, H2, I2, st2, fun b hb => (f2 b hb).1, w0⟩
  rintro n s3 ⟨i, σ3, H3, I3, st3, fr3, w3⟩
  rcases turn i n σ3 H3 w3 with ⟨stop, qn⟩ | ⟨go, N, hN, step⟩
  · refine wpAny_passesOwn hp (thn (T.done X rfl rfl rfl hc i pins s3 σ3 H3 X.xe I3 (stat fr3) st3 stop) fun r s4 ⟨hr, I4⟩ => ?_)
    subst hr
    exact wpAny_execs_nil ⟨σ3, H3, I4, qn⟩
  · refine wpAny_passesOwn hp (thn (T.item X rfl rfl rfl hc i pins s3 σ3 H3 X.xe I3 (stat fr3) st3 go) fun r s4 ⟨u, hr, h4⟩ => ?_)
    subst hr
    refine wpAny_passesOwn hp (thn h4 fun _ s5 ⟨x, H5, I5, r5, y5, st5, fr5⟩ => ?_)
    have I5' := I5.pinned (stat fr5) (T.obj _ _ st5)
    refine wpAny_passesOwn hp (thn (hg _ s5 σ3 H5 x u _ I5' r5 (step x H5 y5)) fun _ s6 ⟨σ6, H6, I6, q6⟩ => ?_)
    refine wpAny_passesOwn hp (thn (hb _ s6 σ6 H6 _ I6 q6) fun f s7 q7 => ?_)
    have again : ∀ {σ7 : St} {H7 : Hp}, Inv X (pins ++ pinsAt fp s5.heap) σ7 H7 s7 → N σ7 H7 → ∃ m, m < n ∧ ∃ i σ' H', Inv X pins σ' H' s7 ∧ tn i s7.heap ∧ (∀ b ∈ fp, H' b = none) ∧ W i m σ' H' := fun {σ7 H7} I7 n7 => by
      obtain ⟨m', hm, w7⟩ := hN σ7 H7 n7
      refine ⟨m', hm, i + 1, σ7, H7, I7.unpinned, T.keep _ _ _ st5 fun b hb o e => (I7.pin (b, o) (List.mem_append_right _ (List.mem_append_right _ (mem_pinsAt hb e)))).1, fun b hb => ?_, w7⟩
      obtain ⟨o, e, d⟩ := T.obj _ _ st5 b hb
      exact (I7.pin (b, o) (List.mem_append_right _ (List.mem_append_right _ (mem_pinsAt hb e)))).2.1
    cases f with
    | next => obtain ⟨σ7, H7, I7, n7⟩ := q7; exact again I7 n7
    | cont => obtain ⟨σ7, H7, I7, n7⟩ := q7; exact again I7 n7
    | brk => obtain ⟨σ7, H7, I7, q7⟩ := q7; exact ⟨σ7, H7, I7.unpinned, q7⟩
    | ret v => obtain ⟨x7, σ7, H7, I7, r7, q7⟩ := q7; exact ⟨x7, σ7, H7, I7.unpinned, r7, q7⟩
end
theorem for_list {K : PySem.W.Frag} {a : Addr} {xs : List V} {g : TG} {tb : TS} {D : Ends} {σ : St} {H : Hp} (Pv : Nat → St → Hp → Prop) (h0 : Pv 0 σ H) (hl : ∀ i σ H, i ≤ xs.length → Pv i σ H → SqL K H a xs)
    (hs : ∀ i x σ H, xs[i]? = some x → Pv i σ H → g x σ H fun σ2 H2 => tb { D with nx := Pv (i + 1), ct := Pv (i + 1), bk := D.nx } σ2 H2) (hd : ∀ σ H, Pv xs.length σ H → D.nx σ H) :
    ∃ W : Nat → Nat → St → Hp → Prop, (∃ m, W 0 m σ H) ∧ ∀ i m σ H, W i m σ H →
      ((Itl K a).stop i H ∧ D.nx σ H) ∨ ((Itl K a).go i H ∧ ∃ N : St → Hp → Prop, (∀ σ' H', N σ' H' → ∃ m', m' < m ∧ W (i + 1) m' σ' H') ∧ ∀ x H', (Itl K a).yld i H x H' → g x σ H' fun σ2 H2 => tb { D with nx := N, ct := N, bk := D.nx } σ2 H2) := by
  refine ⟨fun i m σ H => m = xs.length - i ∧ i ≤ xs.length ∧ Pv i σ H, ⟨xs.length, by simp, Nat.zero_le _, h0⟩, ?_⟩
  rintro i m σ H ⟨rfl, hi, p⟩
  have q := hl i σ H hi p
  by_cases hlt : i < xs.length
  · refine .inr ⟨⟨xs, xs[i], q, by simp [hlt]⟩, Pv (i + 1), fun σ' H' p' => ⟨xs.length - (i + 1), by omega, rfl, hlt, p'⟩, fun x H' y => ?_⟩
    obtain ⟨e, y⟩ := y
    subst e
    exact hs i x σ _ (y xs q) p
  · have e : i = xs.length := by omega
    subst e
    exact .inl ⟨⟨xs, q, Nat.le_refl _⟩, hd σ H p⟩
theorem for_range {lo : Int} {n : Nat} {g : TG} {tb : TS} {D : Ends} {σ : St} {H : Hp} (Pv : Nat → St → Hp → Prop) (h0 : Pv 0 σ H)
    (hs : ∀ i σ H, i < n → Pv i σ H → g (.int (lo + i)) σ H fun σ2 H2 => tb { D with nx := Pv (i + 1), ct := Pv (i + 1), bk := D.nx } σ2 H2) (hd : ∀ σ H, Pv n σ H → D.nx σ H) :
    ∃ W : Nat → Nat → St → Hp → Prop, (∃ m, W 0 m σ H) ∧ ∀ i m σ H, W i m σ H →
      ((Itr lo n).stop i H ∧ D.nx σ H) ∨ ((Itr lo n).go i H ∧ ∃ N : St → Hp → Prop, (∀ σ' H', N σ' H' → ∃ m', m' < m ∧ W (i + 1) m' σ' H') ∧ ∀ x H', (Itr lo n).yld i H x H' → g x σ H' fun σ2 H2 => tb { D with nx := N, ct := N, bk := D.nx } σ2 H2) := by
  refine ⟨fun i m σ H => m = n - i ∧ i ≤ n ∧ Pv i σ H, ⟨n, by simp, Nat.zero_le _, h0⟩, ?_⟩
  rintro i m σ H ⟨rfl, hi, p⟩
  by_cases hlt : i < n
  · refine .inr ⟨hlt, Pv (i + 1), fun σ' H' p' => ⟨n - (i + 1), by omega, rfl, hlt, p'⟩, fun x H' y => ?_⟩
    obtain ⟨e, y⟩ := y
    subst e y
    exact hs i σ _ hlt p
  · have e : i = n := by omega
    subst e
    exact .inl ⟨Nat.le_refl _, hd σ H p⟩
end L2
namespace L2
open PySem PySem.Spec PyProof.Rows
abbrev R2 := V → V → Hp → VK → Prop
def OpR (X : Cx) (f : Value → Value → Sem Value) (r : R2) : Prop :=
  ∀ (pins : List (Addr × Obj)) (s : Shared) (σ : St) (H : Hp) (x y : V) (v u : Value) (Q : VK), Inv X pins σ H s → RelV x v → RelV y u → r x y H Q →
    wpAny (model X.prog X.w) X.A (f v u) (EP X pins σ Q) X.xe s
def UnR (X : Cx) (f : Value → Sem Value) (r : V → Hp → VK → Prop) : Prop :=
  ∀ (pins : List (Addr × Obj)) (s : Shared) (σ : St) (H : Hp) (x : V) (v : Value) (Q : VK), Inv X pins σ H s → RelV x v → r x H Q →
    wpAny (model X.prog X.w) X.A (f v) (EP X pins σ Q) X.xe s
def CallR (X : Cx) (f : Value) (r : List V → Hp → VK → Prop) : Prop :=
  ∀ (pins : List (Addr × Obj)) (s : Shared) (σ : St) (H : Hp) (xs : List V) (us : List Value) (Q : VK), Inv X pins σ H s → Vals xs us → r xs H Q →
    wpAny (model X.prog X.w) X.A (call f us) (EP X pins σ Q) X.xe s
def tOp (r : R2) (ta tb : TE) : TE := fun σ H Q => ta σ H fun x H1 => tb σ H1 fun y H2 => r x y H2 Q
def tUn (r : V → Hp → VK → Prop) (ta : TE) : TE := fun σ H Q => ta σ H fun x H1 => r x H1 Q
def rI (C : Int → Int → Prop) (g : Int → Int → V) : R2 := fun x y H Q => ∃ i j, x = .int i ∧ y = .int j ∧ C i j ∧ Q (g i j) H
def rI0 (g : Int → Int → V) : R2 := fun x y H Q => ∃ i j, x = .int i ∧ y = .int j ∧ Q (g i j) H
def rU (g : Int → V) : V → Hp → VK → Prop := fun x H Q => ∃ i, x = .int i ∧ Q (g i) H
section
variable {X : Cx} {a b c : Expr} {ta tb tc : TE} {pos : Pos}
theorem binT (ha : PE X a ta) (hb : PE X b tb) {pins : List (Addr × Obj)} {s : Shared} {σ : St} {H : Hp} {R : V → V → Hp → Prop} (I : Inv X pins σ H s)
    (h : ta σ H fun x H1 => tb σ H1 fun y H2 => R x y H2) {Q : Value → Shared → Prop} {f : Value → Value → Sem Value}
    (hf : ∀ v u s2 x y H2, Inv X pins σ H2 s2 → RelV x v → RelV y u → R x y H2 → wpAny (model X.prog X.w) X.A (f v u) Q X.xe s2) :
    wpAny (model X.prog X.w) X.A (eval a X.env) (fun v s₁ => wpAny (model X.prog X.w) X.A (eval b X.env) (fun u s₂ => wpAny (model X.prog X.w) X.A (f v u) Q X.xe s₂) X.xe s₁) X.xe s := by
  refine thn (ha pins s σ H _ I h) fun v s1 ⟨x, H1, I1, r1, q1⟩ => ?_
  refine thn (hb pins s1 σ H1 _ I1 q1) fun u s2 ⟨y, H2, I2, r2, q2⟩ => ?_
  exact hf v u s2 x y H2 I2 r1 r2 q2
theorem pe_op {op : Operator} {r : R2} (ho : OpR X (binaryOp op) r) (ha : PE X a ta) (hb : PE X b tb) : PE X (.BinOp a op b pos) (tOp r ta tb) := by
  intro pins s σ H Q I h
  exact wpAny_BinOp (binT ha hb I h fun v u s2 x y H2 I2 rx ry q => ho pins s2 σ H2 x y v u Q I2 rx ry q)
theorem pe_un {op : UnaryOp} {r : V → Hp → VK → Prop} (ho : UnR X (unaryOp op) r) (ha : PE X a ta) : PE X (.UnaryOp op a pos) (tUn r ta) := by
  intro pins s σ H Q I h
  exact UnaryOp_ (thn (ha pins s σ H _ I h) fun v s1 ⟨x, H1, I1, r1, q1⟩ => ho pins s1 σ H1 x v Q I1 r1 q1)
theorem opI {f : Value → Value → Sem Value} {C : Int → Int → Prop} {g : Int → Int → Int}
    (rule : ∀ (i j : Int) (t u : Tok) (s : Shared) (Q : Value → Shared → Prop) (E : Value → Shared → Prop), C i j → Q (.int (g i j) s.toks) { s with toks := s.toks + 1 } → wpAny (model X.prog X.w) X.A (f (.int i t) (.int j u)) Q E s) :
    OpR X f (rI C fun i j => .int (g i j)) := by
  intro pins s σ H x y v u Q I rx ry h
  obtain ⟨i, j, rfl, rfl, hc, q⟩ := h
  obtain ⟨t, rfl⟩ := rx
  obtain ⟨t', rfl⟩ := ry
  exact rule i j t t' s _ _ hc ⟨.int (g i j), H, I.tok _, ⟨_, rfl⟩, q⟩
theorem opI0 {f : Value → Value → Sem Value} {g : Int → Int → Int}
    (rule : ∀ (i j : Int) (t u : Tok) (s : Shared) (Q : Value → Shared → Prop) (E : Value → Shared → Prop), Q (.int (g i j) s.toks) { s with toks := s.toks + 1 } → wpAny (model X.prog X.w) X.A (f (.int i t) (.int j u)) Q E s) :
    OpR X f (rI0 fun i j => .int (g i j)) := by
  intro pins s σ H x y v u Q I rx ry h
  obtain ⟨i, j, rfl, rfl, q⟩ := h
  obtain ⟨t, rfl⟩ := rx
  obtain ⟨t', rfl⟩ := ry
  exact rule i j t t' s _ _ ⟨.int (g i j), H, I.tok _, ⟨_, rfl⟩, q⟩
theorem opB0 {f : Value → Value → Sem Value} {g : Int → Int → Bool}
    (rule : ∀ (i j : Int) (t u : Tok) (s : Shared) (Q : Value → Shared → Prop) (E : Value → Shared → Prop), Q (.bool (g i j)) s → wpAny (model X.prog X.w) X.A (f (.int i t) (.int j u)) Q E s) :
    OpR X f (rI0 fun i j => .bl (g i j)) := by
  intro pins s σ H x y v u Q I rx ry h
  obtain ⟨i, j, rfl, rfl, q⟩ := h
  obtain ⟨t, rfl⟩ := rx
  obtain ⟨t', rfl⟩ := ry
  exact rule i j t t' s _ _ ⟨.bl (g i j), H, I, rfl, q⟩
theorem two_pow_nn (k : Nat) : (0 : Int) ≤ 2 ^ k := by
  rw [two_pow_cast]
  exact Int.natCast_nonneg _
theorem op_add : OpR X (binaryOp .Add) (rI0 fun i j => .int (i + j)) := opI0 fun _ _ _ _ _ _ _ q => add_int q
theorem op_sub : OpR X (binaryOp .Sub) (rI0 fun i j => .int (i - j)) := opI0 fun _ _ _ _ _ _ _ q => sub_int q
theorem op_mod : OpR X (binaryOp .Mod) (rI (fun _ j => 0 < j) fun i j => .int (i % j)) := opI fun i j _ _ _ _ _ hc q => by
  have h1 : (0 : Int) < j := hc
  exact mod_int' (by omega) (by rw [Int.fmod_eq_emod_of_nonneg i (by omega)]; exact q)
theorem op_shr : OpR X (binaryOp .RShift) (rI (fun _ j => 0 ≤ j) fun i j => .int (i / 2 ^ j.toNat)) := opI fun i j _ _ _ _ _ hc q =>
  rshift_int hc (by rw [Int.fdiv_eq_ediv_of_nonneg i (two_pow_nn _)]; exact q)
theorem op_and : OpR X (binaryOp .BitAnd) (rI0 fun i j => .int (Builtin.bitAnd i j)) := opI0 fun _ _ _ _ _ _ _ q => and_int q
theorem unI {f : Value → Sem Value} {g : Int → Int}
    (rule : ∀ (i : Int) (t : Tok) (s : Shared) (Q : Value → Shared → Prop) (E : Value → Shared → Prop), Q (.int (g i) s.toks) { s with toks := s.toks + 1 } → wpAny (model X.prog X.w) X.A (f (.int i t)) Q E s) :
    UnR X f (rU fun i => .int (g i)) := by
  intro pins s σ H x v Q I rx h
  obtain ⟨i, rfl, q⟩ := h
  obtain ⟨t, rfl⟩ := rx
  exact rule i t s _ _ ⟨.int (g i), H, I.tok _, ⟨_, rfl⟩, q⟩
theorem un_neg : UnR X (unaryOp .USub) (rU fun i => .int (-i)) := unI fun _ _ _ _ _ q => neg_int q
end
def scal : V → V → Bool
  | .non, .non => true | .non, .int _ => true | .int _, .non => true | .non, .bl _ => true | .bl _, .non => true | .non, .str _ => true | .str _, .non => true
  | .int _, .int _ => true | .bl _, .bl _ => true | .str _, .str _ => true | .byt _, .byt _ => true
  | .int _, .str _ => true | .str _, .int _ => true | .bl _, .str _ => true | .str _, .bl _ => true
  | _, _ => false
def rEq : R2 := fun x y H Q => scal x y = true ∧ Q (.bl (decide (x = y))) H
def rNe : R2 := fun x y H Q => scal x y = true ∧ Q (.bl (!decide (x = y))) H
theorem dec_int {i j : Int} : decide (V.int i = V.int j) = (i == j) := by
  rw [Bool.eq_iff_iff]
  simp
theorem dec_bl {i j : Bool} : decide (V.bl i = V.bl j) = (i == j) := by
  rw [Bool.eq_iff_iff]
  simp
theorem dec_str {i j : Str} : decide (V.str i = V.str j) = (i == j) := by
  rw [Bool.eq_iff_iff]
  simp
theorem dec_byt {i j : Array UInt8} : decide (V.byt i = V.byt j) = (i.toList == j.toList) := by
  rw [Bool.eq_iff_iff]
  cases i
  cases j
  simp
section
variable {X : Cx} {a b c : Expr} {ta tb tc : TE} {pos : Pos}
theorem fin_bl {pins : List (Addr × Obj)} {σ : St} {H : Hp} {s : Shared} {Q : VK} {k k' : Bool} (I : Inv X pins σ H s) (q : Q (.bl k) H) (e : k = k') : EP X pins σ Q (.bool k') s := by
  subst e
  exact ⟨.bl k, H, I, rfl, q⟩
theorem op_eq : OpR X (compareOp .Eq) rEq := by
  intro pins s σ H x y v u Q I rx ry h
  obtain ⟨hs, q⟩ := h
  cases x with
  | non =>
    cases rx
    cases y with
    | non => cases ry; exact PySem.EqNone.eq_none_none (fin_bl I q (by simp))
    | bl j => cases ry; exact PySem.EqNone.eq_none_bool (fin_bl I q (by simp))
    | int j => obtain ⟨t', rfl⟩ := ry; exact PySem.EqNone.eq_none_int (fin_bl I q (by simp))
    | str j => obtain ⟨t', rfl⟩ := ry; exact PySem.EqNone.eq_none_str (fin_bl I q (by simp))
    | _ => exact absurd (show false = true from hs) Bool.false_ne_true
  | bl i =>
    cases rx
    cases y with
    | non => cases ry; exact PySem.EqNone.eq_bool_none (fin_bl I q (by simp))
    | bl j => cases ry; exact eq_bool (fin_bl I q dec_bl)
    | str j => obtain ⟨t', rfl⟩ := ry; exact PySem.EqMixed.eq_bool_str (fin_bl I q (by simp))
    | _ => exact absurd (show false = true from hs) Bool.false_ne_true
  | int i =>
    obtain ⟨t, rfl⟩ := rx
    cases y with
    | non => cases ry; exact PySem.EqNone.eq_int_none (fin_bl I q (by simp))
    | int j => obtain ⟨t', rfl⟩ := ry; exact eq_int (fin_bl I q dec_int)
    | str j => obtain ⟨t', rfl⟩ := ry; exact PySem.EqMixed.eq_int_str (fin_bl I q (by simp))
    | _ => exact absurd (show false = true from hs) Bool.false_ne_true
  | str i =>
    obtain ⟨t, rfl⟩ := rx
    cases y with
    | non => cases ry; exact PySem.EqNone.eq_str_none (fin_bl I q (by simp))
    | bl j => cases ry; exact PySem.EqMixed.eq_str_bool (fin_bl I q (by simp))
    | int j => obtain ⟨t', rfl⟩ := ry; exact PySem.EqMixed.eq_str_int (fin_bl I q (by simp))
    | str j => obtain ⟨t', rfl⟩ := ry; exact eq_str (fin_bl I q dec_str)
    | _ => exact absurd (show false = true from hs) Bool.false_ne_true
  | byt i =>
    obtain ⟨t, rfl⟩ := rx
    cases y with
    | byt j => obtain ⟨t', rfl⟩ := ry; exact PySem.W.eq_bytes (fin_bl I q dec_byt)
    | _ => exact absurd (show false = true from hs) Bool.false_ne_true
  | _ => cases y <;> exact absurd (show false = true from hs) Bool.false_ne_true
theorem op_ne : OpR X (compareOp .NotEq) rNe := by
  intro pins s σ H x y v u Q I rx ry h
  obtain ⟨hs, q⟩ := h
  cases x with
  | non =>
    cases rx
    cases y with
    | non => cases ry; exact PySem.EqNone.ne_none_none (fin_bl I q (by simp))
    | bl j => cases ry; exact PySem.EqNone.ne_none_bool (fin_bl I q (by simp))
    | int j => obtain ⟨t', rfl⟩ := ry; exact PySem.EqNone.ne_none_int (fin_bl I q (by simp))
    | str j => obtain ⟨t', rfl⟩ := ry; exact PySem.EqNone.ne_none_str (fin_bl I q (by simp))
    | _ => exact absurd (show false = true from hs) Bool.false_ne_true
  | bl i =>
    cases rx
    cases y with
    | non => cases ry; exact PySem.EqNone.ne_bool_none (fin_bl I q (by simp))
    | bl j => cases ry; exact ne_bool (fin_bl I q (congrArg not dec_bl))
    | str j => obtain ⟨t', rfl⟩ := ry; exact PySem.EqMixed.ne_bool_str (fin_bl I q (by simp))
    | _ => exact absurd (show false = true from hs) Bool.false_ne_true
  | int i =>
    obtain ⟨t, rfl⟩ := rx
    cases y with
    | non => cases ry; exact PySem.EqNone.ne_int_none (fin_bl I q (by simp))
    | int j => obtain ⟨t', rfl⟩ := ry; exact ne_int (fin_bl I q (congrArg not dec_int))
    | str j => obtain ⟨t', rfl⟩ := ry; exact PySem.EqMixed.ne_int_str (fin_bl I q (by simp))
    | _ => exact absurd (show false = true from hs) Bool.false_ne_true
  | str i =>
    obtain ⟨t, rfl⟩ := rx
    cases y with
    | non => cases ry; exact PySem.EqNone.ne_str_none (fin_bl I q (by simp))
    | bl j => cases ry; exact PySem.EqMixed.ne_str_bool (fin_bl I q (by simp))
    | int j => obtain ⟨t', rfl⟩ := ry; exact PySem.EqMixed.ne_str_int (fin_bl I q (by simp))
    | str j => obtain ⟨t', rfl⟩ := ry; exact ne_str (fin_bl I q (congrArg not dec_str))
    | _ => exact absurd (show false = true from hs) Bool.false_ne_true
  | byt i =>
    obtain ⟨t, rfl⟩ := rx
    cases y with
    | byt j => obtain ⟨t', rfl⟩ := ry; exact PySem.W.ne_bytes (fin_bl I q (congrArg not dec_byt))
    | _ => exact absurd (show false = true from hs) Bool.false_ne_true
  | _ => cases y <;> exact absurd (show false = true from hs) Bool.false_ne_true
theorem op_lt : OpR X (compareOp .Lt) (rI0 fun i j => .bl (decide (i < j))) := opB0 fun _ _ _ _ _ _ _ q => lt_int q
theorem op_gt : OpR X (compareOp .Gt) (rI0 fun i j => .bl (decide (j < i))) := opB0 fun _ _ _ _ _ _ _ q => gt_int q
theorem op_ge : OpR X (compareOp .GtE) (rI0 fun i j => .bl (decide (j ≤ i))) := opB0 fun _ _ _ _ _ _ _ q => ge_int q
theorem nomark (b : Expr) {op : CmpOp} (h : op ≠ .In := by decide) (h2 : op ≠ .NotIn := by decide) : behindInMarks op b = false := by
  have e1 : (op == CmpOp.In) = false := by cases op <;> first | rfl | exact absurd rfl h
  have e2 : (op == CmpOp.NotIn) = false := by cases op <;> first | rfl | exact absurd rfl h2
  cases b <;> simp [behindInMarks, e1, e2]
theorem pe_cmpR {op : CmpOp} {r : R2} (ho : OpR X (compareOp op) r) (ha : PE X a ta) (hb : PE X b tb) (hm : behindInMarks op b = false) : PE X (.Compare a [op] [b] pos) (tOp r ta tb) := by
  intro pins s σ H Q I h
  exact wpAny_Compare1 (binT ha hb I h fun v u s2 x y H2 I2 rx ry q => ho pins s2 σ H2 x y v u Q I2 rx ry q) hm
def tTest (t : TE) : TT := fun σ H Q => t σ H fun x H' => ∃ k, x = .bl k ∧ Q k H'
theorem pt_cmpR {op : CmpOp} {r : R2} (ho : OpR X (compareOp op) r) (ha : PE X a ta) (hb : PE X b tb) (hm : behindInMarks op b = false) : PT X (.Compare a [op] [b] pos) (tTest (tOp r ta tb)) := by
  intro pins s σ H Q I h
  refine wpAny_isTrue_Compare1 (thn (ha pins s σ H _ I h) fun v s1 ⟨x, H1, I1, r1, q1⟩ => thn (hb pins s1 σ H1 _ I1 q1) fun u s2 ⟨y, H2, I2, r2, q2⟩ =>
    thn (ho pins s2 σ H2 x y v u _ I2 r1 r2 q2) fun c s3 ⟨z, H3, I3, r3, k, e, q3⟩ => ?_) hm
  subst e
  cases r3
  exact wpAny_truthy_bool ⟨H3, I3, q3⟩
def tChain (r r' : R2) (ta tb tc : TE) : TE := fun σ H Q => ta σ H fun x H1 => tb σ H1 fun y H2 => r x y H2 fun z H3 => ∃ k, z = .bl k ∧
  (if k = true then tc σ H3 fun w' H4 => r' y w' H4 Q else Q (.bl false) H3)
theorem line63 : (sizeLine : Nat) < 2 ^ 63 := by rw [sizeLine_eq]; decide
theorem vals1 {x : V} {us : List Value} (r : Vals [x] us) : ∃ u, us = [u] ∧ RelV x u := by
  cases r with
  | cons r1 r2 => cases r2; exact ⟨_, rfl, r1⟩
theorem vals2 {x y : V} {us : List Value} (r : Vals [x, y] us) : ∃ u w', us = [u, w'] ∧ RelV x u ∧ RelV y w' := by
  cases r with
  | cons r1 r2 =>
    cases r2 with
    | cons r3 r4 => cases r4; exact ⟨_, _, rfl, r1, r3⟩
theorem call_abs : CallR X (.builtin "abs") (fun xs H Q => ∃ i, xs = [.int i] ∧ Q (.int (if i < 0 then -i else i)) H) := by
  intro pins s σ H xs us Q I r h
  obtain ⟨i, rfl, q⟩ := h
  obtain ⟨u, rfl, t, rfl⟩ := vals1 r
  exact call_abs_int fun u tk => ⟨.int (if i < 0 then -i else i), H, I.tok _, ⟨_, rfl⟩, q⟩
theorem call_max2 (hc : X.calm = true) : CallR X (.builtin "max") (fun xs H Q => ∃ i j, xs = [.int i, .int j] ∧ Q (.int (if j > i then j else i)) H) := by
  intro pins s σ H xs us Q I r h
  obtain ⟨i, j, rfl, q⟩ := h
  obtain ⟨u, w', rfl, ⟨t, rfl⟩, ⟨t', rfl⟩⟩ := vals2 r
  refine max_two_ints (I.ok.hd hc) fun h' tk k => ⟨_, H, I.kept k, ?_, q⟩
  by_cases hj : j > i
  · rw [if_pos hj, if_pos hj]; exact ⟨_, rfl⟩
  · rw [if_neg hj, if_neg hj]; exact ⟨_, rfl⟩
theorem call_int1 : CallR X (.type "int") (fun xs H Q => (∃ i, xs = [.int i] ∧ Q (.int i) H) ∨ ∃ k, xs = [.bl k] ∧ Q (.int (if k then 1 else 0)) H) := by
  intro pins s σ H xs us Q I r h
  rcases h with ⟨i, rfl, q⟩ | ⟨k, rfl, q⟩
  · obtain ⟨u, rfl, t, rfl⟩ := vals1 r
    exact call_int_int ⟨.int i, H, I, ⟨_, rfl⟩, q⟩
  · obtain ⟨u, rfl, r1⟩ := vals1 r
    cases r1
    exact call_int_bool ⟨.int (if k then 1 else 0), H, I.tok _, ⟨_, rfl⟩, q⟩
end
end L2
namespace L2
open PySem PySem.Spec PyProof.Rows
structure ObjM (h : Heap) (x dx C : Addr) (mA : Str → Option Value) : Prop where
  obj : h.get? x = some (PySem.W.instObj C dx)
  ns : h.Ns1 dx mA
  ne : dx ≠ x
theorem lookIn_ns {h : Heap} {dx : Addr} {mA : Str → Option Value} (n : h.Ns1 dx mA) : ∃ od, h.get? dx = some od ∧ ∀ name, PySem.W.lookIn name od = some (mA name) := by
  obtain ⟨o, es, ep, ho, hd, hk, _, hm⟩ := n
  refine ⟨o, ho, fun name => ?_⟩
  have e := hm name
  unfold nsFind findBy at e
  rw [← Array.find?_toList] at e
  unfold PySem.W.lookIn
  rw [hd]
  dsimp only
  split
  · rename_i y q
    rw [q] at e
    exact congrArg some e
  · rename_i q
    rw [q] at e
    have a : es.toList.any (·.refKey) = false := by
      rw [List.any_eq_false]
      intro y hy
      obtain ⟨z, t, hkey⟩ := hk y (Array.mem_toList_iff.mp hy)
      simp [DictEntry.refKey, hkey]
    have a' : ¬ es.toList.any (·.refKey) = true := by rw [a]; exact Bool.false_ne_true
    rw [if_neg a']
    exact congrArg some e
theorem ObjM.look {h : Heap} {x dx C : Addr} {mA : Str → Option Value} (I : ObjM h x dx C mA) : ∃ od, PySem.W.InstAt h x (PySem.W.instObj C dx) C (some od) ∧ ∀ name, PySem.W.lookIn name od = some (mA name) :=
  let ⟨od, ho, hl⟩ := lookIn_ns I.ns
  ⟨od, ⟨I.obj, rfl, rfl, ho⟩, hl⟩
section
variable {prog : Program} {w : World} {A : Around} {E : Value → Shared → Prop} {s : Shared} {K : PySem.W.Frag} {x dx C f : Addr} {mA : Str → Option Value} {name : Str} {v : Value}
end
section
variable {P : Program} {w : World} {H H' : Hp} {h h' : Heap} {a C dx : Addr} {fs fs' : List (Str × V)}
theorem ins_get (hok : HOk P w H h) (e : H a = some (.ins C dx fs)) : ∃ mA, ObjM h a dx C mA ∧ (∀ f, RelO (fs.lookup f) (mA f)) ∧ PySem.Within mA (fs.map (·.1)) ∧ fs.length ≤ 1000 ∧ H dx = some (.own a) := by
  obtain ⟨d, z, ne, ob, mA, n, r, q⟩ := (show ObjOk P w H h a (.ins C dx fs) from hok a _ e)
  exact ⟨mA, ⟨ob, n, ne⟩, r, q, z, d⟩
end
structure Cls (K : PySem.W.Frag) (C : Addr) : Prop where
  pg : PySem.W.plainGet K C Str.empty = true
  hd : PySem.W.hasDictIn K C = true
  po : PySem.W.plainOver K C = true
  sa : PySem.W.findIn K (.ref C) "__setattr__" = some (some (.builtin "object.__setattr__"))
theorem Cls.get {K : PySem.W.Frag} {C : Addr} (c : Cls K C) (f : Str) : PySem.W.plainGet K C f = true := c.pg
section
variable {X : Cx} {pins : List (Addr × Obj)} {σ : St} {H : Hp} {s : Shared} {a C dx : Addr} {fs : List (Str × V)} {f : Str} {v : V} {A : Around} {E : Value → Shared → Prop}
end
section
variable {X : Cx} {o e value : Expr} {f : Str} {pos pos' tpos : Pos} {ta tv : TE}
end
section
variable {X : Cx} {pins : List (Addr × Obj)} {σ : St} {H : Hp} {s : Shared} {A : Around} {E : Value → Shared → Prop} {Q : Value → Shared → Prop} {c : Value} {b : Bool}
inductive TyOf (K : PySem.W.Frag) (H : Hp) : V → Value → Prop where
  | non : TyOf K H .non (.type "NoneType")
  | bl (x : Bool) : TyOf K H (.bl x) (.type "bool")
  | int (i : Int) : TyOf K H (.int i) (.type "int")
  | str (x : Str) : TyOf K H (.str x) (.type "str")
  | flt (x : UInt64) : TyOf K H (.flt x) (.type "float")
  | lst {a : Addr} {xs : List V} (e : H a = some (.lst xs)) : TyOf K H (.ref a) (.type "list")
  | frz {a : Addr} {o : Obj} {xs : List V} (e : H a = some (.frz o (.lst xs))) : TyOf K H (.ref a) (.type "list")
  | tup {a : Addr} {xs : List V} (e : H a = some (.tup xs)) : TyOf K H (.ref a) (.type "tuple")
  | dK {a : Addr} {kvs : List (Key × V)} (e : H a = some (.dK kvs)) : TyOf K H (.ref a) (.type "dict")
  | dT {a : Addr} {kvs : List (List Key × V)} (e : H a = some (.dT kvs)) : TyOf K H (.ref a) (.type "dict")
  | ins {a C dx : Addr} {fs : List (Str × V)} (e : H a = some (.ins C dx fs)) (cl : Cls K C) (ha : PySem.W.findIn K (.ref C) "__class__" = some (some (.builtin "object.__class__")))
      (hn : PySem.W.specialIn K (.builtin "object.__class__") "__get__" = some (some (.builtin "getset_descriptor.__get__"))) (htk : PySem.W.takesIn K (.builtin "object.__class__") = some true)
      (hm : PySem.W.mroIn K C (.type "object") = some true) : TyOf K H (.ref a) (.ref C)
theorem isinst_ok {x : V} {u t : Value} (I : Inv X pins σ H s) (rx : RelV x u) (ty : TyOf X.K H x t) (e : PySem.W.kitOne X.K t c = some b) (h : ∀ tk, Q (.bool b) { s with toks := tk }) :
    wpAny (model X.prog X.w) A (call (.builtin "isinstance") [u, c]) Q E s := by
  cases ty with
  | non => cases (show u = Value.none from rx); exact PySem.W.kia_one PySem.W.kitx_none I.kIn True.intro e (fun z => nomatch z) h
  | bl y => cases (show u = Value.bool y from rx); exact PySem.W.kia_one PySem.W.kitx_bool I.kIn True.intro e (fun z => nomatch z) h
  | int i => obtain ⟨t, q⟩ := (show ∃ t, u = Value.int i t from rx); cases q; exact PySem.W.kia_one PySem.W.kitx_int I.kIn True.intro e (fun z => nomatch z) h
  | str y => obtain ⟨t, q⟩ := (show ∃ t, u = Value.str y t from rx); cases q; exact PySem.W.kia_one PySem.W.kitx_str I.kIn True.intro e (fun z => nomatch z) h
  | flt y => obtain ⟨t, q⟩ := (show ∃ t, u = Value.float y t from rx); cases q; exact PySem.W.kia_one PySem.W.kitx_float I.kIn True.intro e (fun z => nomatch z) h
  | @lst a xs ea =>
    cases (show u = Value.ref a from rx)
    obtain ⟨_, _, n, _, h1⟩ := (show ObjOk X.prog X.w H s.heap a (.lst xs) from I.hok a _ ea)
    exact PySem.W.kia_one PySem.W.kitx_list I.kIn ⟨_, h1, rfl⟩ e (fun z => nomatch z) h
  | @frz a ob xs ea =>
    cases (show u = Value.ref a from rx)
    obtain ⟨_, _, _, n, _, h1⟩ := (show ObjOk X.prog X.w H s.heap a (.frz ob (.lst xs)) from I.hok a _ ea)
    exact PySem.W.kia_one PySem.W.kitx_list I.kIn ⟨_, h1, rfl⟩ e (fun z => nomatch z) h
  | @tup a xs ea =>
    cases (show u = Value.ref a from rx)
    obtain ⟨_, _, _, p⟩ := (show ObjOk X.prog X.w H s.heap a (.tup xs) from I.hok a _ ea)
    obtain ⟨o, h1, h2, _⟩ := p
    exact PySem.W.kia_one PySem.W.kitx_tuple I.kIn ⟨o, h1, h2⟩ e (fun z => nomatch z) h
  | @dK a kvs ea =>
    cases (show u = Value.ref a from rx)
    obtain ⟨_, _, vs, _, p⟩ := (show ObjOk X.prog X.w H s.heap a (.dK kvs) from I.hok a _ ea)
    obtain ⟨o, es, ep, h1, h2, _⟩ := p
    exact PySem.W.kia_one PySem.W.kitx_dict I.kIn ⟨o, h1, h2.1⟩ e (fun z => nomatch z) h
  | @dT a kvs ea =>
    cases (show u = Value.ref a from rx)
    obtain ⟨_, _, xs, _, o, es, ep, h1, h2, _⟩ := (show ObjOk X.prog X.w H s.heap a (.dT kvs) from I.hok a _ ea)
    exact PySem.W.kia_one PySem.W.kitx_dict I.kIn ⟨o, h1, h2.1⟩ e (fun z => nomatch z) h
  | @ins a C dx fs ea cl ha hn htk hm =>
    cases (show u = Value.ref a from rx)
    obtain ⟨mA, O, _⟩ := ins_get I.hok ea
    obtain ⟨od, J, _⟩ := O.look
    exact PySem.W.kia_one (PySem.W.kitx_own (cl.get _) cl.hd ha hn htk hm) I.kIn J e (fun z => nomatch z) h
end
end L2
namespace L2
open PySem PySem.Spec PyProof.Rows
structure Room (k : Nat) (A : Around) : Prop where
  hd : A.handled = none
  dp : A.depth + 3 * k + 5 < recursionLimit
  un : A.units + 16 * k + 200 < cLine
theorem Room.mono {j k : Nat} {A : Around} (r : Room k A) (h : j ≤ k) : Room j A := ⟨r.hd, by have := r.dp; omega, by have := r.un; omega⟩
theorem Room.deeper {k : Nat} {A : Around} (r : Room (k + 1) A) (env : Env) : Room k (A.deeper env) :=
  ⟨r.hd, by have := r.dp; show A.depth + 1 + 3 * k + 5 < _; omega, by have := r.un; show A.units + 3 + 16 * k + 200 < _; omega⟩
theorem Room.depth {k : Nat} {A : Around} (r : Room k A) : A.depth < recursionLimit := by have := r.dp; omega
theorem Room.units {k : Nat} {A : Around} (r : Room k A) : A.units + 64 < cLine := by have := r.un; omega
def tNil : TA := fun _ H Q => Q [] H
def tCons (ta : TE) (tr : TA) : TA := fun σ H Q => ta σ H fun x H1 => tr σ H1 fun xs H2 => Q (x :: xs) H2
section
variable {X : Cx} {e : Expr} {es : List Expr} {te : TE} {t : TA} {pos : Pos}
theorem pa_nil : PA X [] tNil := fun _ _ _ _ H Q I h => Calls.spliced_nil ⟨[], H, I, .nil, h⟩
theorem pa_cons (ha : PE X e te) (hr : PA X es t) (hs : starEach (e :: es) X.env = (false, eval e X.env) :: starEach es X.env := by rfl) : PA X (e :: es) (tCons te t) := by
  intro pos pins s σ H Q I h
  rw [hs]
  show wpAny _ _ (spliced ((false, eval e X.env) :: backTo pos (starEach es X.env))) _ _ s
  refine Calls.spliced_cons (thn (ha pins s σ H _ I h) fun u s1 ⟨x, H1, I1, r1, q1⟩ => ?_)
  exact thn (hr pos pins s1 σ H1 _ I1 q1) fun us s2 ⟨xs, H2, I2, r2, q2⟩ => ⟨x :: xs, H2, I2, .cons r1 r2, q2⟩
def tTup (t : TA) : TE := fun σ H Q => t σ H fun xs H1 => xs.length ≤ sizeLine ∧ ∀ p, H1 p = none → Q (.ref p) (upd H1 p (.tup xs))
def tLst (t : TA) : TE := fun σ H Q => t σ H fun xs H1 => xs.length ≤ sizeLine ∧ ∀ p, H1 p = none → Q (.ref p) (upd H1 p (.lst xs))
theorem pe_tup {x1} (h : PA X es t) : PE X (.Tuple es x1 pos) (tTup t) := by
  intro pins s σ H Q I hq
  refine wpAny_Tuple_spliced (thn (h pos pins s σ H _ I hq) fun us s1 ⟨xs, H1, I1, r, z, q⟩ => ⟨by rw [← r.length]; exact z, ?_⟩)
  have hf : H1 s1.heap.objs.size = none := I1.hok.fresh (Nat.le_refl _)
  refine ⟨.ref s1.heap.objs.size, upd H1 s1.heap.objs.size (.tup xs), I1.laid (t' := s1.toks) (fun b u e => Heap.get?_push_of_some _ e) (Nat.le_refl _) ?_, rfl, q _ hf⟩
  exact ⟨z, us, r, ⟨_, Heap.get?_push_size _ rfl, rfl, _, rfl⟩⟩
theorem pe_lst (h : PA X es t) : PE X (.List es pos) (tLst t) := by
  intro pins s σ H Q I hq
  refine wpAny_List_spliced (thn (h pos pins s σ H _ I hq) fun us s1 ⟨xs, H1, I1, r, z, q⟩ => ⟨by rw [← r.length]; exact z, ?_⟩)
  have hf : H1 s1.heap.objs.size = none := I1.hok.fresh (Nat.le_refl _)
  refine ⟨.ref s1.heap.objs.size, upd H1 s1.heap.objs.size (.lst xs), I1.laid (t' := s1.toks) (fun b u e => Heap.get?_push_of_some _ e) (Nat.le_refl _) ?_, rfl, q _ hf⟩
  exact ⟨z, us, 0, r, Heap.get?_push_size _ rfl⟩
end
abbrev Sp := List V → Hp → VK → XK → Prop
abbrev CXT := List Env → Hp → Shared → XK → Value → Shared → Prop
structure Env0 (P : Program) (w : World) (K : PySem.W.Frag) (mg : Str → Option Value) (base : Heap) (A : Around) (outer : List Env) (s : Shared) (H : Hp) : Prop where
  frames : A.frames = some outer
  mod : Mod K mg base
  bs : ∀ b o, base.get? b = some o → s.heap.get? b = some o ∧ H b = none
  bsz : base.objs.size ≤ s.heap.objs.size
  funs : s.heap.FunFrames base outer
  frf : ∀ b ∈ frs outer, H b = none
  hok : HOk P w H s.heap
  bare : AllBare s.gens
def CE (outer : List Env) (P : Program) (w : World) (H : Hp) (s : Shared) (Q : VK) (u : Value) (s' : Shared) : Prop :=
  ∃ v H', s'.os = s.os ∧ AllBare s'.gens ∧ Un (frs outer) [] H H' s.heap s'.heap ∧ HOk P w H' s'.heap ∧ RelV v u ∧ Q v H'
def CR (CX : CXT) (outer : List Env) (P : Program) (w : World) (H : Hp) (s : Shared) (Q : VK) (E : XK) (r : Result) (s' : Shared) : Prop :=
  match r with
  | .ok (.ret u) => CE outer P w H s Q u s'
  | .ok _ => False
  | .error e => CX outer H s E e s'
structure FnOk (P : Program) (w : World) (K : PySem.W.Frag) (mg : Str → Option Value) (base : Heap) (CX : CXT) (k : Nat) (f : Addr) (fd : FuncData) (ps : List Str) (sp : Sp) : Prop where
  len : ∀ vs H Q E, sp vs H Q E → vs.length = ps.length
  run : ∀ (A : Around) (outer : List Env) (s : Shared) (H : Hp) (args : Args) (us : List Value) (vs : List V) (Q : VK) (E : XK), Room k A → Env0 P w K mg base A outer s H → BindsTo s fd args (ps.zip us) → Vals vs us → sp vs H Q E →
    codeAny (model P w) A (.call (.ref f) args) (CR CX outer P w H s Q E) s
theorem FnOk.mono {P : Program} {w : World} {K : PySem.W.Frag} {mg : Str → Option Value} {base : Heap} {CX : CXT} {j k : Nat} {f : Addr} {fd : FuncData} {ps : List Str} {sp : Sp} (F : FnOk P w K mg base CX j f fd ps sp) (h : j ≤ k) :
    FnOk P w K mg base CX k f fd ps sp := ⟨F.len, fun A outer s H args us vs Q E hr => F.run A outer s H args us vs Q E (hr.mono h)⟩
theorem FnOk.imp {P : Program} {w : World} {K : PySem.W.Frag} {mg : Str → Option Value} {base : Heap} {CX : CXT} {k : Nat} {f : Addr} {fd : FuncData} {ps : List Str} {sp sp' : Sp} (F : FnOk P w K mg base CX k f fd ps sp)
    (h : ∀ vs H Q E, sp' vs H Q E → sp vs H Q E) : FnOk P w K mg base CX k f fd ps sp' :=
  ⟨fun vs H Q E q => F.len vs H Q E (h _ _ _ _ q), fun A outer s H args us vs Q E hr he hb hv hs => F.run A outer s H args us vs Q E hr he hb hv (h _ _ _ _ hs)⟩
section
variable {X : Cx} {pins : List (Addr × Obj)} {σ : St} {H : Hp} {s s' : Shared}
theorem Inv.env0 (I : Inv X pins σ H s) : Env0 X.prog X.w X.K X.mg X.base X.A X.stack s H :=
  ⟨I.ok.frames, I.ok.mod, I.bs, Nat.le_trans I.ok.bsz I.sz, I.stack, I.stkFree, I.hok, I.bare⟩
theorem Inv.after {Q : VK} {u : Value} (I : Inv X pins σ H s) (h : CE X.stack X.prog X.w H s Q u s') : EP X pins σ Q u s' := by
  obtain ⟨v, H', os, bare, un, hok, r, q⟩ := h
  obtain ⟨hh, g, d, t, os'⟩ := s'
  obtain rfl : os' = s.os := os
  exact ⟨v, H', I.call (h' := hh) (g' := g) (d' := d) (t' := t) (ch := []) un hok bare (fun b z => absurd z (by simp)), r, q⟩
end
def tCall (sp : Sp) (dvs : List V) (E : XK) (t : TA) : TE := fun σ H Q => t σ H fun vs H1 => sp (vs ++ dvs) H1 Q E
def Binds (K : PySem.W.Frag) (fd : FuncData) (ps : List Str) (ds : List Value) : Prop :=
  ∀ (s : Shared) (us : List Value), K.In s.heap → (us ++ ds).length = ps.length → BindsTo s fd ⟨us, []⟩ (ps.zip (us ++ ds))
theorem Binds.all {K : PySem.W.Frag} {fd : FuncData} {ps : List Str} (h : ∀ us : List Value, us.length = ps.length → bindArgs fd ⟨us, []⟩ = pure (ps.zip us)) : Binds K fd ps [] := fun s us _ hl => by
  rw [List.append_nil] at hl ⊢
  exact .of_eq (h us hl)
def Passes (CX : CXT) (X : Cx) (E : XK) : Prop := ∀ (pins : List (Addr × Obj)) (σ : St) (H : Hp) (s : Shared) (e : Value) (s' : Shared), Inv X pins σ H s → CX X.stack H s E e s' → X.xe e s'
section
variable {X : Cx} {CX : CXT} {k : Nat} {f C : Addr} {fd : FuncData} {ps : List Str} {sp : Sp} {dvs : List V} {ds : List Value} {E : XK} {x m : Str} {p pos apos : Pos} {e o : Expr} {es : List Expr} {ta : TE} {t : TA}
theorem run_fn {pins : List (Addr × Obj)} {σ : St} {H : Hp} {s : Shared} {Q : VK} {us : List Value} {vs : List V} (F : FnOk X.prog X.w X.K X.mg X.base CX k f fd ps sp) (hr : Room k X.A) (hb : Binds X.K fd ps ds) (hd : Vals dvs ds) (hx : Passes CX X E)
    (I : Inv X pins σ H s) (r : Vals vs us) (h : sp (vs ++ dvs) H Q E) : wpAny (model X.prog X.w) X.A (call (.ref f) us) (EP X pins σ Q) X.xe s := by
  have r2 : Vals (vs ++ dvs) (us ++ ds) := r.append hd
  have hl : (us ++ ds).length = ps.length := by rw [← r2.length]; exact F.len _ _ _ _ h
  refine wpAny_call (codeAny_mono (F.run X.A X.stack s H ⟨us, []⟩ (us ++ ds) (vs ++ dvs) Q E hr I.env0 (hb s us I.kIn hl) r2 h) fun r s' hq => ?_)
  cases r with
  | error e => exact hx pins σ H s e s' I hq
  | ok fl =>
    cases fl with
    | ret u => exact I.after hq
    | next => exact False.elim hq
    | brk => exact False.elim hq
    | cont => exact False.elim hq
theorem pe_call (F : FnOk X.prog X.w X.K X.mg X.base CX k f fd ps sp) (hr : Room k X.A) (hg : Gl X x) (hm : X.mg x = some (.ref f)) (hk : PySem.W.keepIn X.K (.ref f) = true) (hb : Binds X.K fd ps ds) (hd : Vals dvs ds) (hx : Passes CX X E)
    (ha : PA X (e :: es) t) (hdb : (x == ("__debug__" : Str)) = false := by decide) (he : starEach (e :: es) X.env = (false, eval e X.env) :: starEach es X.env := by rfl) (hpl : (backTo pos (starEach es X.env)).any (·.1) = false := by rfl) :
    PE X (.Call (.Name x p) (e :: es) [] pos) (tCall sp dvs E t) := by
  intro pins s σ H Q I h
  refine wpAny_Call_Name_kw (ld_glob I hg hm ?_ hdb)
  refine PySem.W.callWith_K (h₀ := X.base) I.ok.mod.kin hk (thn (ha pos pins s σ H _ I h) fun us s1 ⟨vs, H1, I1, r, q⟩ => ⟨I1.kIn, ?_⟩) he hpl
  exact run_fn F hr hb hd hx I1 r q
end
section
variable {X : Cx} {CX : CXT} {k : Nat} {f C : Addr} {fd : FuncData} {ps ks : List Str} {sp : Sp} {E : XK} {x m : Str} {p pos apos kpos : Pos} {e o : Expr} {es : List Expr} {kws : List Keyword} {te ta : TE} {t tk : TA} {nm : Option Str}
variable {g : List Value → List Value → List Value} {gV : List V → List V → List V}
end
structure FnScope (N P : List Str) (sc : Scope) : Prop where
  kind : sc.kind = .function
  co : sc.isCoroutine = false
  gen : sc.isGenerator = false
  nd : N.Nodup
  pre : N.take P.length = P
  par : ∀ x ∈ P, sc.names.lookup x = some .local ∨ sc.names.lookup x = some .cell
  nofree : ∀ y ∈ sc.names, y.2 ≠ .free
theorem bindL_out {kindOf : Str → Option NameKind} {x : Str} : ∀ {binds : List (Str × Value)} {m : Str → Option Value}, (∀ v, (x, v) ∉ binds) → bindL kindOf binds m x = m x
  | [], _, _ => rfl
  | (n, v) :: r, m, h => by
    unfold bindL
    rw [bindL_out fun w hw => h w (List.mem_cons_of_mem _ hw)]
    split
    · have : x ≠ n := by rintro rfl; exact h v List.mem_cons_self
      simp [this]
    · rfl
theorem bindC_out {kindOf : Str → Option NameKind} {x : Str} : ∀ {binds : List (Str × Value)} {m : Str → Option Value}, (∀ v, (x, v) ∉ binds) → bindC kindOf binds m x = m x
  | [], _, _ => rfl
  | (n, v) :: r, m, h => by
    unfold bindC
    rw [bindC_out fun w hw => h w (List.mem_cons_of_mem _ hw)]
    split
    · rfl
    · have : x ≠ n := by rintro rfl; exact h v List.mem_cons_self
      simp [this]
theorem bindL_get {kindOf : Str → Option NameKind} {x : Str} {v : Value} : ∀ {P : List Str} {vs : List Value} {i : Nat} {m : Str → Option Value}, P.Nodup → P[i]? = some x → vs[i]? = some v → kindOf x = some .local →
    bindL kindOf (P.zip vs) m x = some v
  | [], _, _, _, _, h, _, _ => by simp at h
  | _ :: _, [], _, _, _, _, h, _ => by simp at h
  | p :: P, w :: vs, 0, m, nd, h1, h2, hk => by
    simp at h1 h2; subst h1; subst h2
    show bindL kindOf ((p, w) :: P.zip vs) m p = _
    unfold bindL
    rw [bindL_out fun v hv => (List.nodup_cons.mp nd).1 (List.of_mem_zip hv).1, if_pos hk]
    simp
  | p :: P, w :: vs, i + 1, m, nd, h1, h2, hk => by
    show bindL kindOf ((p, w) :: P.zip vs) m x = _
    unfold bindL
    exact bindL_get (i := i) (List.nodup_cons.mp nd).2 (by simpa using h1) (by simpa using h2) hk
theorem bindC_get {kindOf : Str → Option NameKind} {x : Str} {v : Value} : ∀ {P : List Str} {vs : List Value} {i : Nat} {m : Str → Option Value}, P.Nodup → P[i]? = some x → vs[i]? = some v → kindOf x ≠ some .local →
    bindC kindOf (P.zip vs) m x = some v
  | [], _, _, _, _, h, _, _ => by simp at h
  | _ :: _, [], _, _, _, _, h, _ => by simp at h
  | p :: P, w :: vs, 0, m, nd, h1, h2, hk => by
    simp at h1 h2; subst h1; subst h2
    show bindC kindOf ((p, w) :: P.zip vs) m p = _
    unfold bindC
    rw [bindC_out fun v hv => (List.nodup_cons.mp nd).1 (List.of_mem_zip hv).1, if_neg hk]
    simp
  | p :: P, w :: vs, i + 1, m, nd, h1, h2, hk => by
    show bindC kindOf ((p, w) :: P.zip vs) m x = _
    unfold bindC
    exact bindC_get (i := i) (List.nodup_cons.mp nd).2 (by simpa using h1) (by simpa using h2) hk
def start (N : List Str) (vs : List V) : St := vs.map some ++ List.replicate (N.length - vs.length) none
def cxOf (CX : CXT) (P : Program) (w : World) (K : PySem.W.Frag) (mg : Str → Option Value) (base : Heap) (N : List Str) (qual : Str) (scope : Scope) (f : Addr) (cd : Value) (A : Around) (outer : List Env) (s : Shared) (H : Hp) (E : XK) : Cx where
  prog := P
  w := w
  K := K
  mg := mg
  base := base
  A := A.deeper (envOfC qual scope s.heap.objs.size f cd)
  N := N
  s₀ := s
  H₀ := H
  env := envOfC qual scope s.heap.objs.size f cd
  outer := outer
  stack := envOfC qual scope s.heap.objs.size f cd :: outer
  ex := []
  calm := true
  fn := fun _ => true
  pn := []
  xe := fun e s' => wpAny (model P w) (A.deeper (envOfC qual scope s.heap.objs.size f cd)) (leaving (envOfC qual scope s.heap.objs.size f cd) e) (fun _ s'' => CX outer H s E e s'') (fun e' s'' => CX outer H s E e' s'') s'
theorem cell_has {sc : Scope} {n : Nat} {x : Str} (h : sc.names.lookup x = some .cell) : ∃ c, (cellsFrom n sc.names []).lookup x = some c := by
  have q := PySem.W.cellsFrom_some sc.names n [] (.inl h)
  exact Option.isSome_iff_exists.mp q
theorem inv_start {CX : CXT} {P : Program} {w : World} {K : PySem.W.Frag} {mg : Str → Option Value} {base : Heap} {N ps : List Str} {qual : Str} {scope : Scope} {f : Addr} {cd : Value} {A : Around} {outer : List Env} {s s1 : Shared} {H : Hp} {E : XK} {us : List Value} {vs : List V}
    (S : FnScope N ps scope) (hd : A.handled = none) (e0 : Env0 P w K mg base A outer s H) (hl : vs.length = ps.length) (r : Vals vs us)
    (x : InCallC s s.heap.objs.size (bindL (envOfC qual scope s.heap.objs.size f cd).kindOf (ps.zip us) fun _ => none) (cellsFrom (s.heap.objs.size + 1) scope.names []) (bindC (envOfC qual scope s.heap.objs.size f cd).kindOf (ps.zip us) fun _ => none) s1) :
    Inv (cxOf CX P w K mg base N qual scope f cd A outer s H E) [] (start N vs) H s1 := by
  have hpl : ps.length ≤ N.length := by have := congrArg List.length S.pre; rw [List.length_take] at this; omega
  obtain ⟨h1, tk, rfl, hk⟩ := x.done
  have noA : ∀ b : Addr, b ∉ (cxOf CX P w K mg base N qual scope f cd A outer s H E).ex := fun b z => absurd (show b ∈ ([] : List Addr) from z) (by simp)
  refine ⟨⟨e0.mod, S.kind, rfl, rfl, Nat.le_refl _, fun y z c h1 h2 => ?_, fun y hy => ?_, fun y c _ h => ?_, fun _ => hd, Around.frames_deeper e0.frames, .inr ⟨rfl, rfl⟩, fun b z => absurd z (noA b), e0.bs, e0.bsz, fun b _ _ => noA b, fun b z => absurd z (noA b), e0.funs, e0.frf⟩,
    rfl, e0.bare, Un.kept hk, ⟨_, x.toInCall.ns, fun i y v h1 h2 h3 => ?_⟩, fun y c h => ⟨_, x.cell y c h⟩, e0.hok.fresh (Nat.le_refl _), fun y c h => ?_, fun p hp => absurd (show p ∈ ([] : List (Addr × Obj)) from hp) (by simp), e0.hok.kept hk, ?_⟩
  · exact name_of_addr x.apart (PySem.mem_of_lookup h1) (PySem.mem_of_lookup h2)
  · have hy : scope.names.lookup y = some .cell ∨ scope.names.lookup y = some .free := hy
    rcases hy with hy | hy
    · exact cell_has hy
    · exact absurd rfl (S.nofree _ (PySem.mem_of_lookup hy))
  · exact Nat.le_of_lt (x.above y c (PySem.mem_of_lookup h))
  · have hi : i < vs.length := by
      unfold start at h2
      by_cases hi : i < vs.length
      · exact hi
      · rw [List.getElem?_append_right (by simpa using hi)] at h2
        rw [List.getElem?_replicate] at h2
        split at h2 <;> cases h2
    have ha : vs[i]? = some v := by
      unfold start at h2
      rw [List.getElem?_append_left (by simpa using hi), List.getElem?_map] at h2
      cases e : vs[i]? with
      | none => rw [e] at h2; cases h2
      | some a => rw [e] at h2; cases h2; rfl
    obtain ⟨u, hu, rv⟩ := r.get ha
    have hp : ps[i]? = some y := by
      rw [← S.pre, List.getElem?_take_of_lt (by omega)]; exact h1
    have ndP : ps.Nodup := by rw [← S.pre]; exact S.nd.sublist (List.take_sublist _ _)
    refine ⟨u, rv, ?_⟩
    rcases S.par y (List.mem_of_getElem? hp) with k | k
    · exact .inl ⟨k, bindL_get ndP hp hu k⟩
    · obtain ⟨c, e⟩ := cell_has (n := s.heap.objs.size + 1) k
      refine .inr ⟨.inl k, c, e, ?_⟩
      have q := x.cell y c e
      rw [bindC_get ndP hp hu (by show scope.names.lookup y ≠ _; rw [k]; decide)] at q
      exact q
  · exact e0.hok.fresh (Nat.le_of_lt (x.above y c (PySem.mem_of_lookup h)))
  · unfold start
    show _ = N.length
    rw [List.length_append, List.length_map, List.length_replicate]
    omega
theorem fn_of {CX : CXT} {P : Program} {w : World} {K : PySem.W.Frag} {mg : Str → Option Value} {base : Heap} {k : Nat} {f : Addr} {name qual : Str} {params : Arguments} {body : List Stmt} {scope : Scope} {dV kV doc pm cdv ct oc : Value} {an od : Option Addr}
    {osl : Array (Option Value)} {N ps : List Str} {sp : Sp} (lk : K.lookup f = some ⟨oc, od, .func (PySem.W.fnOf name qual params body scope dV kV doc pm an cdv ct), osl⟩) (hcd : PySem.W.codeIn K cdv qual = true) (S : FnScope N ps scope)
    (len : ∀ vs H Q E, sp vs H Q E → vs.length = ps.length)
    (hbody : ∀ (A : Around) (outer : List Env) (s : Shared) (H : Hp) (vs : List V) (Q : VK) (E : XK), Room k (A.deeper (envOfC qual scope s.heap.objs.size f cdv)) → sp vs H Q E →
      ∃ t, PSs (cxOf CX P w K mg base N qual scope f cdv A outer s H E) body t ∧ t { nx := fun _ H' => Q .non H', rt := Q } (start N vs) H) :
    FnOk P w K mg base CX (k + 1) f (PySem.W.fnOf name qual params body scope dV kV doc pm an cdv ct) ps sp := by
  refine ⟨len, fun A outer s H args us vs Q E hr e0 hb r hsp => ?_⟩
  have hl := len _ _ _ _ hsp
  have KX : K.In s.heap := e0.mod.kin.keeps fun b o e => (e0.bs b o e).1
  have lim : s.heap.NoLimit := e0.mod.nolimit.keeps fun b o e => (e0.bs b o e).1
  have hkind : ∀ y ∈ ps.zip us, scope.names.lookup y.1 = some .local ∨ (scope.names.lookup y.1 = some .cell ∧ ((cellsFrom (s.heap.objs.size + 1) scope.names []).lookup y.1).isSome = true) := fun ⟨n, v⟩ hy => by
    rcases S.par n (List.of_mem_zip hy).1 with q | q
    · exact .inl q
    · exact .inr ⟨q, PySem.W.cellsFrom_some _ _ _ (.inl q)⟩
  refine codeAny_call_function hr.depth (KX _ _ lk) rfl S.co S.gen rfl (PySem.W.codeRec_of KX hcd) (hb _ _ _ _ ?_)
  refine wpAny_newFunctionEnv_cells S.kind hkind fun env he s1 x => ?_
  subst he
  refine ⟨lim.keeps x.toInCall.keep, codeAny_func ?_⟩
  obtain ⟨t, ht, hq⟩ := hbody A outer s H vs Q E (hr.deeper _) hsp
  have I : Inv (cxOf CX P w K mg base N qual scope f cdv A outer s H E) [] (start N vs) H s1 := inv_start S hr.hd e0 hl r x
  refine wpAny_mono (ht [] s1 (start N vs) H _ I hq) (fun fl s' hs => ?_) fun e s' hs => hs
  have fin : ∀ {σ' : St} {H' : Hp} {v : V} {u : Value}, Inv (cxOf CX P w K mg base N qual scope f cdv A outer s H E) [] σ' H' s' → RelV v u → Q v H' → CE outer P w H s Q u s' :=
    fun {σ' H' v u} J rv q => ⟨v, H', J.os, J.bare, J.base, J.hok, rv, q⟩
  cases fl with
  | ret u =>
    obtain ⟨v, σ', H', J, rv, q⟩ := hs
    exact fin J rv q
  | next =>
    obtain ⟨σ', H', J, q⟩ := hs
    exact fin (v := V.non) (u := Value.none) J rfl q
  | brk =>
    obtain ⟨_, _, _, q⟩ := hs
    exact False.elim q
  | cont =>
    obtain ⟨_, _, _, q⟩ := hs
    exact False.elim q
end L2
namespace L2
open PySem PySem.Spec PyProof.Rows
section
variable {X : Cx} {x : Str} {p pos : Pos} {e : Expr} {es : List Expr} {t : TA} {id T : String} {r : List V → Hp → VK → Prop}
def tCB (r : List V → Hp → VK → Prop) (t : TA) : TE := fun σ H Q => t σ H fun vs H1 => r vs H1 Q
theorem pe_callB (hc : CallR X (.builtin id) r) (hg : Gl X x) (hm : X.mg x = none) (hv : bootBuiltins x = some (.builtin id)) (ha : PA X (e :: es) t) (hn : x ≠ "__name__" := by decide) (hdb : (x == ("__debug__" : Str)) = false := by decide)
    (he : starEach (e :: es) X.env = (false, eval e X.env) :: starEach es X.env := by rfl) (hpl : (backTo pos (starEach es X.env)).any (·.1) = false := by rfl) : PE X (.Call (.Name x p) (e :: es) [] pos) (tCB r t) := by
  intro pins s σ H Q I h
  refine wpAny_Call_Name_kw (ld_blt I hg hm hv ?_ hn hdb)
  exact PyProof.Rows.callWith_builtin1 (thn (ha pos pins s σ H _ I h) fun us s1 ⟨vs, H1, I1, r1, q1⟩ => hc pins s1 σ H1 vs us Q I1 r1 q1) he hpl
theorem pe_callTy (hc : CallR X (.type T) r) (hg : Gl X x) (hm : X.mg x = none) (hv : bootBuiltins x = some (.type T)) (ha : PA X (e :: es) t) (hn : x ≠ "__name__" := by decide) (hdb : (x == ("__debug__" : Str)) = false := by decide)
    (he : starEach (e :: es) X.env = (false, eval e X.env) :: starEach es X.env := by rfl) (hpl : (backTo pos (starEach es X.env)).any (·.1) = false := by rfl) : PE X (.Call (.Name x p) (e :: es) [] pos) (tCB r t) := by
  intro pins s σ H Q I h
  refine wpAny_Call_Name_kw (ld_blt I hg hm hv ?_ hn hdb)
  exact PyProof.Rows.callWith_type1 (thn (ha pos pins s σ H _ I h) fun us s1 ⟨vs, H1, I1, r1, q1⟩ => hc pins s1 σ H1 vs us Q I1 r1 q1) he hpl
end
end L2
namespace HT
open PySem PyProof.Rows
section
open PySem.SeqAt
open PySem.AutoSeq1 (wpAny_loadPart')
open PySem.MeetsSeq PySem.MeetsSeq2 PySem.MeetsSeq3
end
section
variable {prog : Program} {w : World} {A : Around} {E : Value → Shared → Prop} {s : Shared}
def sIx (n d : Nat) : Option Int → Nat
  | none => d
  | some v => if v < 0 then (v + (n : Int)).toNat else min v.toNat n
theorem sIx_none (n d : Nat) : sIx n d none = d := rfl
theorem sIx_nat (n d k : Nat) : sIx n d (some (k : Int)) = min k n := by
  show (if (k : Int) < 0 then ((k : Int) + (n : Int)).toNat else min (k : Int).toNat n) = min k n
  rw [if_neg (by omega), Int.toNat_natCast]
end
end HT
namespace L2
open PySem PySem.Spec PyProof.Rows
abbrev TO := St → Hp → (Option Int → Hp → Prop) → Prop
def PO (X : Cx) (e : Option Expr) (t : TO) : Prop :=
  ∀ (pins : List (Addr × Obj)) (s : Shared) (σ : St) (H : Hp) (Q : Option Int → Hp → Prop), Inv X pins σ H s → t σ H Q →
    wpAny (model X.prog X.w) X.A (evalPart e X.env) (fun u s' => ∃ o H', Inv X pins σ H' s' ∧ IsPart u o ∧ Q o H') X.xe s
def tNoPart : TO := fun _ H Q => Q none H
def tPart (t : TE) : TO := fun σ H Q => t σ H fun x H1 => ∃ i, x = .int i ∧ Q (some i) H1
section
variable {X : Cx} {e : Expr} {te : TE} {lo hi : Option Expr} {tl th : TO} {pos p2 : Pos}
theorem po_none : PO X none tNoPart := by
  intro pins s σ H Q I h
  rw [evalPart_none]
  exact wpAny_pure ⟨none, H, I, .none, h⟩
theorem po_some (h : PE X e te) : PO X (some e) (tPart te) := by
  intro pins s σ H Q I hw
  rw [evalPart_some]
  refine thn (h pins s σ H _ I hw) fun u s1 ⟨x, H1, I1, r1, q1⟩ => ?_
  obtain ⟨i, rfl, q⟩ := q1
  obtain ⟨t, rfl⟩ := r1
  exact ⟨some i, H1, I1, .int i t, q⟩
def SlR (X : Cx) (r : V → Option Int → Option Int → Hp → VK → Prop) : Prop :=
  ∀ (pins : List (Addr × Obj)) (s : Shared) (σ : St) (H : Hp) (x : V) (v vl vu : Value) (lo hi : Option Int) (sl : Addr) (Q : VK), Inv X pins σ H s → RelV x v → s.heap.IsSliceOf sl vl vu .none → IsPart vl lo → IsPart vu hi → r x lo hi H Q →
    ∃ T id, typeLookup (.type T) "__getitem__" = pure (some (.builtin id)) ∧ s.TypeIs v T ∧ wpAny (model X.prog X.w) X.A (getItem v (.ref sl)) (EP X pins σ Q) X.xe s
def tSl (r : V → Option Int → Option Int → Hp → VK → Prop) (te : TE) (tl th : TO) : TE := fun σ H Q => te σ H fun x H1 => tl σ H1 fun l H2 => th σ H2 fun u H3 => r x l u H3 Q
theorem pe_slice {r : V → Option Int → Option Int → Hp → VK → Prop} (hr : SlR X r) (he : PE X e te) (hl : PO X lo tl) (hu : PO X hi th) : PE X (.Subscript e (.Slice lo hi none p2) pos) (tSl r te tl th) := by
  intro pins s σ H Q I h
  refine Subscript_ (thn (he pins s σ H _ I h) fun v s1 ⟨x, H1, I1, r1, q1⟩ => ?_)
  refine wpAny_Slice (thn (hl pins s1 σ H1 _ I1 q1) fun vl s2 ⟨l, H2, I2, pl, q2⟩ => thn (hu pins s2 σ H2 _ I2 q2) fun vu s3 ⟨u, H3, I3, pu, q3⟩ => ?_)
  rw [evalPart_none]
  refine wpAny_pure ?_
  have I4 : Inv X pins σ H3 { s3 with heap := s3.heap.push { cls := .type "slice", data := .fields #[vl, vu, .none] } } := I3.kept (t' := s3.toks) fun b ob q => Heap.get?_push_of_some _ q
  obtain ⟨T, id, hT, ht, hg⟩ := hr pins { s3 with heap := s3.heap.push { cls := .type "slice", data := .fields #[vl, vu, .none] } } σ H3 x v vl vu l u s3.heap.objs.size Q I4 r1 (Heap.IsSliceOf.new ..) pl pu q3
  show wpAny (model X.prog X.w) X.A (subscriptTail e (.Slice lo hi none p2) v (.ref s3.heap.objs.size)) (EP X pins σ Q) X.xe { s3 with heap := s3.heap.push { cls := .type "slice", data := .fields #[vl, vu, .none] } }
  exact tail_any (ops := [.ref s3.heap.objs.size, v]) ht hT hg (by with_unfolding_all rfl)
def cutV (xs : List V) (lo hi : Option Int) : List V := (xs.drop (HT.sIx xs.length 0 lo)).take (HT.sIx xs.length xs.length hi - HT.sIx xs.length 0 lo)
theorem cutV_length (xs : List V) (lo hi : Option Int) : (cutV xs lo hi).length ≤ xs.length := by
  unfold cutV
  rw [List.length_take, List.length_drop]
  omega
end
end L2
namespace L2
open PySem PySem.Spec PyProof.Rows
def ixN (n : Nat) (i : Int) : Option Nat := if 0 ≤ i then (if i < n then some i.toNat else none) else if -(n : Int) ≤ i then some (i + n).toNat else none
def atI {α : Type} (xs : List α) (i : Int) : Option α := (ixN xs.length i).bind fun j => xs[j]?
theorem ixN_seq {n : Nat} {i : Int} {j : Nat} (h : ixN n i = some j) : seqIndex? i n = some j ∧ j < n ∧ -(n : Int) ≤ i ∧ i < n := by
  unfold ixN at h
  by_cases h0 : 0 ≤ i
  · rw [if_pos h0] at h
    by_cases h1 : i < n
    · rw [if_pos h1] at h
      have e : i.toNat = j := Option.some.inj h
      exact ⟨by rw [seqIndex_of h0 h1, e], by omega, by omega, h1⟩
    · rw [if_neg h1] at h; cases h
  · rw [if_neg h0] at h
    by_cases h1 : -(n : Int) ≤ i
    · rw [if_pos h1] at h
      have e : (i + n).toNat = j := Option.some.inj h
      exact ⟨by rw [seqIndex_neg (by omega) h1, e], by omega, h1, by omega⟩
    · rw [if_neg h1] at h; cases h
theorem atI_get {α : Type} {xs : List α} {i : Int} {v : α} (h : atI xs i = some v) : ∃ j, seqIndex? i xs.length = some j ∧ xs[j]? = some v ∧ j < xs.length ∧ -(xs.length : Int) ≤ i ∧ i < xs.length := by
  unfold atI at h
  cases e : ixN xs.length i with
  | none => rw [e] at h; cases h
  | some j =>
    rw [e] at h
    obtain ⟨h1, h2, h3, h4⟩ := ixN_seq e
    exact ⟨j, h1, h, h2, h3, h4⟩
theorem atI_nat {α : Type} {xs : List α} {j : Nat} {v : α} (h : xs[j]? = some v) : atI xs (j : Int) = some v := by
  have hj : j < xs.length := (List.getElem?_eq_some_iff.mp h).1
  have e : ixN xs.length (j : Int) = some j := by
    unfold ixN
    rw [if_pos (by omega), if_pos (by omega)]; simp
  unfold atI; rw [e]; exact h
theorem atI_last {α : Type} (xs : List α) (v : α) : atI (xs ++ [v]) (-1) = some v := by
  have hl : (xs ++ [v]).length = xs.length + 1 := by simp
  have e : ixN (xs ++ [v]).length (-1) = some xs.length := by
    unfold ixN
    rw [hl, if_neg (by decide), if_pos (by omega)]
    congr 1
    omega
  unfold atI
  rw [e]
  show (xs ++ [v])[xs.length]? = some v
  simp
def PlainIx (b : Expr) : Prop := ∀ o i, subscripted b false o i = operate [o, i] (getItem o i)
def IxR (X : Cx) (r : R2) : Prop :=
  ∀ (value slice : Expr) (pins : List (Addr × Obj)) (s : Shared) (σ : St) (H : Hp) (x y : V) (v u : Value) (Q : VK), Inv X pins σ H s → RelV x v → RelV y u → r x y H Q →
    subscripted slice false v u = operate [v, u] (getItem v u) → wpAny (model X.prog X.w) X.A (subscriptTail value slice v u) (EP X pins σ Q) X.xe s
def MtR (X : Cx) (id : String) (r : V → List V → Hp → VK → Prop) : Prop :=
  ∀ (pins : List (Addr × Obj)) (s : Shared) (σ : St) (H : Hp) (x : V) (xs : List V) (v : Value) (us : List Value) (Q : VK), Inv X pins σ H s → RelV x v → Vals xs us → r x xs H Q →
    wpAny (model X.prog X.w) X.A (call (.builtin id) (v :: us)) (EP X pins σ Q) X.xe s
section
variable {X : Cx} {a b : Expr} {ta tb : TE} {pos : Pos}
theorem pe_ix {r : R2} (hr : IxR X r) (ha : PE X a ta) (hb : PE X b tb) (hs : PlainIx b) : PE X (.Subscript a b pos) (tOp r ta tb) := by
  intro pins s σ H Q I h
  exact Subscript_ (binT ha hb I h fun v u s2 x y H2 I2 rx ry q => hr a b pins s2 σ H2 x y v u Q I2 rx ry q (hs _ _))
def rIxL (K : PySem.W.Frag) : R2 := fun x y H Q => ∃ p xs i v, x = .ref p ∧ y = .int i ∧ SqL K H p xs ∧ atI xs i = some v ∧ Q v H
def rIxT (K : PySem.W.Frag) : R2 := fun x y H Q => ∃ p xs i v, x = .ref p ∧ y = .int i ∧ SqT K H p xs ∧ atI xs i = some v ∧ Q v H
theorem ix_list : IxR X (rIxL X.K) := by
  intro value slice pins s σ H x y v u Q I rx ry h hs
  obtain ⟨p, xs, i, z, rfl, rfl, hq, he, q⟩ := h
  cases rx
  obtain ⟨t, rfl⟩ := ry
  obtain ⟨its, r, pl, hz⟩ := I.list hq
  obtain ⟨j, h1, h2, h3, h4, h5⟩ := atI_get he
  obtain ⟨w, ew, rw'⟩ := r.get h2
  have hl := r.length
  have hn := line63
  have fin : EP X pins σ Q w s := ⟨z, H, I, rw', q⟩
  by_cases h0 : 0 ≤ i
  · have hj : i.toNat = j := by
      rw [seqIndex_of h0 h5] at h1
      exact Option.some.inj h1
    exact item_listR pl.isList h0 (by omega) (by rw [hj]; simpa using ew) fin hs
  · have hj : (i + (its.toArray.size : Int)).toNat = j := by
      rw [seqIndex_neg (by omega) h4] at h1
      rw [List.size_toArray, ← hl]
      exact Option.some.inj h1
    exact subscriptTail_builtinR (x := w) pl.isList.typeIs slot_list_getitem.lookup
      (wpAny_getItem_list_neg (Q := fun r s' => r = w ∧ EP X pins σ Q r s') pl.isList (by omega) (by rw [List.size_toArray] <;> omega) (by omega) (by rw [hj]; simpa using ew) ⟨rfl, fin⟩) hs
theorem ix_tup : IxR X (rIxT X.K) := by
  intro value slice pins s σ H x y v u Q I rx ry h hs
  obtain ⟨p, xs, i, z, rfl, rfl, hq, he, q⟩ := h
  cases rx
  obtain ⟨t, rfl⟩ := ry
  obtain ⟨its, r, pl, hz⟩ := I.tuple hq
  obtain ⟨j, h1, h2, h3, h4, h5⟩ := atI_get he
  obtain ⟨w, ew, rw'⟩ := r.get h2
  have hl := r.length
  have hn := line63
  have fin : EP X pins σ Q w s := ⟨z, H, I, rw', q⟩
  exact subscriptTail_builtinR (x := w) pl.typeIs slot_tuple_getitem.lookup
    (getItem_tuple (j := j) (Q := fun r s' => r = w ∧ EP X pins σ Q r s') pl (by omega) (by omega) (by rw [List.size_toArray, ← hl]; exact h1) (by simpa using ew) ⟨rfl, fin⟩) hs
theorem mapSeq_set (its : List Value) (n j : Nat) (u : Value) : Obj.mapSeq (·.setIfInBounds j u) { cls := .type "list", data := .seq its.toArray n } = { cls := .type "list", data := .seq (its.set j u).toArray n } := by
  simp [Obj.mapSeq]
theorem Inv.lst {pins : List (Addr × Obj)} {σ : St} {H : Hp} {s : Shared} {p : Addr} {xs : List V} (I : Inv X pins σ H s) (h : H p = some (.lst xs)) :
    ∃ (its : List Value) (n : Nat), Vals xs its ∧ s.heap.get? p = some { cls := .type "list", data := .seq its.toArray n } ∧ xs.length ≤ sizeLine := by
  obtain ⟨z, its, n, r, e⟩ := I.hok p _ h
  exact ⟨its, n, r, e, z⟩
theorem Inv.lstUpd {pins : List (Addr × Obj)} {σ : St} {H : Hp} {s : Shared} {p : Addr} {xs ys : List V} {its its' : List Value} {n n' : Nat} {f : Obj → Obj} (I : Inv X pins σ H s) (h : H p = some (.lst xs))
    (ho : s.heap.get? p = some { cls := .type "list", data := .seq its.toArray n }) (hf : f { cls := .type "list", data := .seq its.toArray n } = { cls := .type "list", data := .seq its'.toArray n' }) (r : Vals ys its') (hz : ys.length ≤ sizeLine) (t : Nat) :
    Inv X pins σ (upd H p (.lst ys)) { s with heap := s.heap.update p f, toks := t } := by
  have e : (s.heap.update p f).get? p = some { cls := .type "list", data := .seq its'.toArray n' } := by
    rw [Heap.get?_update_self f ho (by rw [hf] <;> rfl), hf]
  refine I.write (x := p) (e := p) (by rw [h]; trivial) (.inl rfl) (fun b u hb q => (Heap.get?_update_other _ _ (Ne.symm hb)).trans q) ⟨_, e⟩ ?_
  exact ⟨hz, its', n', r, e⟩
def rSetL : V → V → V → Hp → (Hp → Prop) → Prop := fun o i v H Q => ∃ p xs k j, o = .ref p ∧ i = .int k ∧ H p = some (.lst xs) ∧ ixN xs.length k = some j ∧ Q (upd H p (.lst (xs.set j v)))
theorem set_list : PSet X rSetL := by
  intro pins s σ H o i v ov iv u Q I ro ri rv h
  obtain ⟨p, xs, k, j, rfl, rfl, hp, hj, q⟩ := h
  cases ro
  obtain ⟨t, rfl⟩ := ri
  obtain ⟨its, n, r, ho, hz⟩ := I.lst hp
  obtain ⟨h1, h2, h3, h4⟩ := ixN_seq hj
  have hl := r.length
  have hn := line63
  have I' : Inv X pins σ (upd H p (.lst (xs.set j v))) { s with heap := s.heap.update p (Obj.mapSeq (·.setIfInBounds j u)) } :=
    I.lstUpd hp ho (mapSeq_set its n j u) (r.set rv j) (by rw [List.length_set]; exact hz) s.toks
  by_cases h0 : 0 ≤ k
  · have hk : k.toNat = j := by
      rw [seqIndex_of h0 h4] at h1
      exact Option.some.inj h1
    exact PySem.W.ki_setAt ho h0 (by omega) (by rw [List.size_toArray, ← hl]; exact h4) (by rw [hk]; exact ⟨_, I', q⟩)
  · have hk : (k + (its.toArray.size : Int)).toNat = j := by
      rw [seqIndex_neg (by omega) h3] at h1
      rw [List.size_toArray, ← hl]
      exact Option.some.inj h1
    exact PySem.W.ki_setBack ho (by omega) (by rw [List.size_toArray, ← hl]; exact h3) (by omega) (by rw [hk]; exact ⟨_, I', q⟩)
theorem slice_bounds (lo hi : Option Int) (n : Nat) : (sliceBounds lo hi none n).1 = ((HT.sIx n 0 lo : Nat) : Int) ∧ (sliceBounds lo hi none n).2.1 = ((HT.sIx n n hi : Nat) : Int) ∧ (sliceBounds lo hi none n).2.2 = 1 := by
  refine ⟨?_, ?_, rfl⟩
  · cases lo with
    | none => simp [sliceBounds, HT.sIx]
    | some i =>
      simp only [sliceBounds, HT.sIx, Option.getD_none, show (1 : Int) > 0 by decide, if_true]
      by_cases h : i < 0
      · simp only [h, if_true] <;> omega
      · simp only [h, if_false] <;> omega
  · cases hi with
    | none => simp [sliceBounds, HT.sIx]
    | some i =>
      simp only [sliceBounds, HT.sIx, Option.getD_none, show (1 : Int) > 0 by decide, if_true]
      by_cases h : i < 0
      · simp only [h, if_true] <;> omega
      · simp only [h, if_false] <;> omega
theorem slicePick_cut (its : List Value) (lo hi : Option Int) : slicePick its.toArray lo hi none = ((its.drop (HT.sIx its.length 0 lo)).take (HT.sIx its.length its.length hi - HT.sIx its.length 0 lo)).toArray := by
  obtain ⟨h1, h2, h3⟩ := slice_bounds lo hi its.toArray.size
  unfold slicePick
  rw [h1, h2, h3]
  simp only [sliceRange_one, pick_run, List.size_toArray] <;> rfl
def rSlL (K : PySem.W.Frag) : V → Option Int → Option Int → Hp → VK → Prop := fun x lo hi H Q => ∃ a xs, x = .ref a ∧ SqL K H a xs ∧ ∀ p, H p = none → Q (.ref p) (upd H p (.lst (cutV xs lo hi)))
theorem sl_list : SlR X (rSlL X.K) := by
  intro pins s σ H x v vl vu lo hi sl Q I rx hs pl pu h
  obtain ⟨a, xs, rfl, hx, q⟩ := h
  cases rx
  obtain ⟨its, r, ht, hz⟩ := I.list hx
  have hlen := r.length
  refine ⟨"list", _, slot_list_getitem.lookup, ht.isList.typeIs, ?_⟩
  refine wpAny_getItem_list_slice ht.isList hs pl pu .none (by simp) ?_ (by rw [List.size_toArray] <;> omega)
  rw [slicePick_cut, ← hlen]
  refine ⟨.ref s.heap.objs.size, _, I.laid (t' := s.toks) (o := .lst (cutV xs lo hi)) (fun b ob q => Heap.get?_push_of_some _ q) (Nat.le_refl _) ?_, rfl, q _ (I.hok.fresh (Nat.le_refl _))⟩
  exact ⟨Nat.le_trans (cutV_length xs lo hi) hz, _, 0, (r.drop (HT.sIx xs.length 0 lo)).take (HT.sIx xs.length xs.length hi - HT.sIx xs.length 0 lo), Heap.get?_push_size _ rfl⟩
def flatV : V → Bool
  | .non => true
  | .bl _ => true
  | .int _ => true
  | .str _ => true
  | _ => false
def eqV : V → V → Bool
  | .non, .non => true
  | .bl a, .bl b => a == b
  | .bl a, .int b => (if a then 1 else 0) == b
  | .int a, .bl b => a == (if b then 1 else 0)
  | .int a, .int b => a == b
  | .str a, .str b => a == b
  | _, _ => false
theorem eqAt_V {A : Around} {s : Shared} {y x : V} {u v : Value} (ry : RelV y u) (rx : RelV x v) (fy : flatV y = true) (fx : flatV x = true) : SeqAt.EqAt A s u v (eqV y x) := by
  cases y with
  | non =>
    cases ry
    cases x with
    | non => cases rx; exact SeqAt.EqAt.same _
    | bl b => cases rx; exact SeqAt.EqAt.none_bool b
    | int b => obtain ⟨t, rfl⟩ := rx; exact SeqAt.EqAt.none_int b t
    | str b => obtain ⟨t, rfl⟩ := rx; exact SeqAt.EqAt.none_str b t
    | _ => exact absurd (show false = true from fx) Bool.false_ne_true
  | bl a =>
    cases ry
    cases x with
    | non => cases rx; exact SeqAt.EqAt.bool_none a
    | bl b => cases rx; exact SeqAt.EqAt.bool_bool a b
    | int b => obtain ⟨t, rfl⟩ := rx; exact SeqAt.EqAt.bool_int a b t
    | str b => obtain ⟨t, rfl⟩ := rx; exact SeqAt.EqAt.bool_str a b t
    | _ => exact absurd (show false = true from fx) Bool.false_ne_true
  | int a =>
    obtain ⟨t', rfl⟩ := ry
    cases x with
    | non => cases rx; exact SeqAt.EqAt.int_none a t'
    | bl b => cases rx; exact SeqAt.EqAt.int_bool a t' b
    | int b => obtain ⟨t, rfl⟩ := rx; exact SeqAt.EqAt.int_int a t' b t
    | str b => obtain ⟨t, rfl⟩ := rx; exact SeqAt.EqAt.int_str a t' b t
    | _ => exact absurd (show false = true from fx) Bool.false_ne_true
  | str a =>
    obtain ⟨t', rfl⟩ := ry
    cases x with
    | non => cases rx; exact SeqAt.EqAt.str_none a t'
    | bl b => cases rx; exact SeqAt.EqAt.str_bool a t' b
    | int b => obtain ⟨t, rfl⟩ := rx; exact SeqAt.EqAt.str_int a t' b t
    | str b => obtain ⟨t, rfl⟩ := rx; exact SeqAt.EqAt.str_str a t' b t
    | _ => exact absurd (show false = true from fx) Bool.false_ne_true
  | _ => exact absurd (show false = true from fy) Bool.false_ne_true
def eqU (x : V) (u : Value) : Bool := match u with
  | .none => eqV .non x
  | .bool b => eqV (.bl b) x
  | .int i _ => eqV (.int i) x
  | .str z _ => eqV (.str z) x
  | _ => false
theorem eqU_of {x y : V} {u : Value} (r : RelV y u) (f : flatV y = true) : eqU x u = eqV y x := by
  cases y with
  | non => cases r; rfl
  | bl b => cases r; rfl
  | int i => obtain ⟨t, rfl⟩ := r; rfl
  | str z => obtain ⟨t, rfl⟩ := r; rfl
  | _ => exact absurd (show false = true from f) Bool.false_ne_true
theorem any_eqU {x : V} : ∀ {xs : List V} {us : List Value}, Vals xs us → xs.all flatV = true → us.any (eqU x) = xs.any fun y => eqV y x
  | _, _, .nil, _ => rfl
  | y :: xs, u :: us, .cons r t, f => by
    rw [List.all_cons, Bool.and_eq_true] at f
    rw [List.any_cons, List.any_cons, eqU_of r f.1, any_eqU t f.2]
theorem mem_eqAt {A : Around} {s : Shared} {x : V} {v : Value} (rx : RelV x v) (fx : flatV x = true) : ∀ {xs : List V} {us : List Value}, Vals xs us → xs.all flatV = true → ∀ u ∈ us, SeqAt.EqAt A s u v (eqU x u)
  | _, _, .nil, _ => fun u hu => by cases hu
  | y :: xs, u :: us, .cons r t, f => fun u' hu => by
    rw [List.all_cons, Bool.and_eq_true] at f
    rcases List.mem_cons.mp hu with rfl | hu
    · rw [eqU_of r f.1]; exact eqAt_V r rx f.1 fx
    · exact mem_eqAt rx fx t f.2 u' hu
def inV (x : V) (xs : List V) : Bool := xs.any fun y => eqV y x
def rIn (K : PySem.W.Frag) (neg : Bool) : R2 := fun x y H Q => ∃ p xs, y = .ref p ∧ (SqL K H p xs ∨ SqT K H p xs) ∧ flatV x = true ∧ xs.all flatV = true ∧ Q (.bl (if neg then !inV x xs else inV x xs)) H
theorem op_notIn_seq : OpR X (compareOp .NotIn) (rIn X.K true) := by
  intro pins s σ H x y v u Q I rx ry h
  obtain ⟨p, xs, rfl, hq, fx, fs, q⟩ := h
  cases ry
  rcases hq with hq | hq
  · obtain ⟨its, r, pl, hz⟩ := I.list hq
    refine SeqAt.notIn_listAt (eqU x) pl.isList (fun w hw => mem_eqAt rx fx r fs w (by simpa using hw)) ⟨.bl _, H, I, rfl, ?_⟩
    rw [show its.toArray.any (eqU x) = its.any (eqU x) by simp, any_eqU r fs]
    exact q
  · obtain ⟨its, r, pl, hz⟩ := I.tuple hq
    refine SeqAt.notIn_tupleAt (eqU x) pl (fun w hw => mem_eqAt rx fx r fs w (by simpa using hw)) ⟨.bl _, H, I, rfl, ?_⟩
    rw [show its.toArray.any (eqU x) = its.any (eqU x) by simp, any_eqU r fs]
    exact q
theorem call_len_seq : CallR X (.builtin "len") (fun xs H Q => ∃ p ys, xs = [.ref p] ∧ (SqL X.K H p ys ∨ SqT X.K H p ys) ∧ Q (.int ys.length) H) := by
  intro pins s σ H xs us Q I r h
  obtain ⟨p, ys, rfl, hq, q⟩ := h
  obtain ⟨u, rfl, rx⟩ := vals1 r
  cases rx
  have hn := line63
  rcases hq with hq | hq
  · obtain ⟨its, r', pl, hz⟩ := I.list hq
    have hlen := r'.length
    exact Calls.call_len_list pl.isList (by simp only [List.size_toArray] <;> omega) ⟨.int ys.length, H, I.tok _, ⟨s.toks + 1, by rw [List.size_toArray, hlen]⟩, q⟩
  · obtain ⟨its, r', pl, hz⟩ := I.tuple hq
    have hlen := r'.length
    exact len_tuple pl (by simp only [List.size_toArray] <;> omega) ⟨.int ys.length, H, I.tok _, ⟨s.toks + 1, by rw [List.size_toArray, hlen]⟩, q⟩
theorem call_list_of : CallR X (.type "list") (fun xs H Q => ∃ p ys, xs = [.ref p] ∧ (SqL X.K H p ys ∨ SqT X.K H p ys) ∧ ∀ l, H l = none → Q (.ref l) (upd H l (.lst ys))) := by
  intro pins s σ H xs us Q I r h
  obtain ⟨p, ys, rfl, hq, q⟩ := h
  obtain ⟨u, rfl, rx⟩ := vals1 r
  cases rx
  have fin : ∀ (its : List Value), Vals ys its → ys.length ≤ sizeLine → ∀ (h' : Heap) (c' : Nat), (∀ b o', s.heap.get? b = some o' → h'.get? b = some o') →
      h'.get? s.heap.objs.size = some { cls := .type "list", dict := none, data := .seq its.toArray c', slots := #[] } → EP X pins σ Q (.ref s.heap.objs.size) { s with heap := h' } := fun its r' hz h' c' kp e =>
    ⟨.ref s.heap.objs.size, _, I.laid (t' := s.toks) kp (Nat.le_refl _) (show ObjOk X.prog X.w _ h' _ (.lst ys) from ⟨hz, its, c', r', e⟩), rfl, q _ (I.hok.fresh (Nat.le_refl _))⟩
  rcases hq with hq | hq
  · obtain ⟨its, r', pl, hz⟩ := I.list hq
    have hlen := r'.length
    obtain ⟨o, ho, hc, n, hd⟩ := pl.isList
    exact call_list_seq p (.inl rfl) ho hc hd (fun h' c' kp e => fin its r' hz h' c' kp e) (by simp only [List.size_toArray] <;> omega)
  · obtain ⟨its, r', pl, hz⟩ := I.tuple hq
    have hlen := r'.length
    obtain ⟨o, ho, hc, n, hd⟩ := pl
    exact call_list_seq p (.inr rfl) ho hc hd (fun h' c' kp e => fin its r' hz h' c' kp e) (by simp only [List.size_toArray] <;> omega)
theorem call_tuple_of : CallR X (.type "tuple") (fun xs H Q => ∃ p ys, xs = [.ref p] ∧ ((SqL X.K H p ys ∧ ∀ l, H l = none → Q (.ref l) (upd H l (.tup ys))) ∨ (SqT X.K H p ys ∧ Q (.ref p) H))) := by
  intro pins s σ H xs us Q I r h
  obtain ⟨p, ys, rfl, h⟩ := h
  obtain ⟨u, rfl, rx⟩ := vals1 r
  cases rx
  rcases h with ⟨hq, q⟩ | ⟨hq, q⟩
  · obtain ⟨its, r', pl, hz⟩ := I.list hq
    have hlen := r'.length
    refine call_tuple_list pl.isList (fun h' kp => ?_) (by simp only [List.size_toArray] <;> omega)
    have I1 : Inv X pins σ H { s with heap := h' } := I.kept (t' := s.toks) kp
    have I2 : Inv X pins σ (upd H h'.objs.size (.tup ys)) { s with heap := h'.push { cls := .type "tuple", data := .seq its.toArray } } :=
      I1.laid (t' := s.toks) (fun b o e => Heap.get?_push_of_some _ e) (Nat.le_refl _) (show ObjOk X.prog X.w _ _ _ (.tup ys) from ⟨hz, its, r', IsTup.new _ _⟩)
    exact ⟨.ref h'.objs.size, _, I2, rfl, q _ (I1.hok.fresh (Nat.le_refl _))⟩
  · obtain ⟨its, r', pl, hz⟩ := I.tuple hq
    exact call_tuple_same pl ⟨.ref p, H, I, rfl, q⟩
def tyV (K : PySem.W.Frag) (T : String) (x : V) (H : Hp) : Prop := match x with
  | .str _ => T = "str"
  | .int _ => T = "int"
  | .ref p => (T = "list" ∧ ∃ xs, SqL K H p xs) ∨ (T = "tuple" ∧ ∃ o, K.lookup p = some o ∧ o.cls = .type "tuple" ∧ o.dict = none) ∨
      (T = "dict" ∧ ((∃ kvs, H p = some (.dK kvs)) ∨ ∃ kvs, H p = some (.dT kvs))) ∨ (T = "set" ∧ ∃ S n, H p = some (.set S n))
  | _ => False
theorem tyV_is {pins : List (Addr × Obj)} {σ : St} {H : Hp} {s : Shared} {T : String} {x : V} {v : Value} (I : Inv X pins σ H s) (r : RelV x v) (ty : tyV X.K T x H) :
    s.TypeIs v T ∧ ∀ a, v = .ref a → ∃ ob, s.heap.get? a = some ob ∧ ob.dict = none := by
  cases x with
  | str z =>
    obtain ⟨t, rfl⟩ := r
    cases (show T = "str" from ty)
    exact ⟨typeIs_str s z t, fun _ e => nomatch e⟩
  | int i =>
    obtain ⟨t, rfl⟩ := r
    cases (show T = "int" from ty)
    exact ⟨typeIs_int s i t, fun _ e => nomatch e⟩
  | ref p =>
    cases r
    rcases ty with ⟨rfl, xs, hq⟩ | ⟨rfl, o, hk, hc, hd⟩ | ⟨rfl, hk⟩ | ⟨rfl, S, n, hk⟩
    · obtain ⟨its, _, pl, _⟩ := I.list hq
      refine ⟨pl.isList.typeIs, fun a e => ?_⟩
      cases e
      obtain ⟨o, n, e, c, hd, _⟩ := pl
      exact ⟨o, e, hd⟩
    · refine ⟨⟨o, I.kIn p o hk, hc⟩, fun a e => ?_⟩
      cases e
      exact ⟨o, I.kIn _ o hk, hd⟩
    · have z : ∃ o, s.heap.get? p = some o ∧ o.ExactDict := by
        rcases hk with ⟨kvs, hk⟩ | ⟨kvs, hk⟩
        · obtain ⟨_, _, _, _, o, _, _, e, ex, _⟩ := I.hok p _ hk
          exact ⟨o, e, ex⟩
        · obtain ⟨_, _, _, _, o, _, _, e, ex, _⟩ := I.hok p _ hk
          exact ⟨o, e, ex⟩
      obtain ⟨o, e, ex⟩ := z
      refine ⟨⟨o, e, ex.1⟩, fun a e2 => ?_⟩
      cases e2
      exact ⟨o, e, ex.2.1⟩
    · obtain ⟨o, _, _, _, e, ex, _⟩ := I.hok p _ hk
      refine ⟨⟨o, e, ex.1⟩, fun a e2 => ?_⟩
      cases e2
      exact ⟨o, e, ex.2.1⟩
  | _ => exact False.elim ty
def tBM0 (K : PySem.W.Frag) (T : String) (r : V → List V → Hp → VK → Prop) (to : TE) : TE := fun σ H Q => to σ H fun x H1 => tyV K T x H1 ∧ r x [] H1 Q
def tBM (K : PySem.W.Frag) (T : String) (r : V → List V → Hp → VK → Prop) (to : TE) (t : TA) : TE := fun σ H Q => to σ H fun x H1 => tyV K T x H1 ∧ t σ H1 fun xs H2 => r x xs H2 Q
variable {o e : Expr} {es : List Expr} {to : TE} {t : TA} {name : Str} {apos cpos : Pos} {T id : String} {r : V → List V → Hp → VK → Prop}
theorem pe_bm0 (pa : PlainAttrs T) (slot : Slot T name id) (hty : typeOf (.builtin id) = pure (.type "method_descriptor")) (hm : MtR X id r) (ho : PE X o to)
    (hbase : attributeBase o name X.env (eval o X.env) = eval o X.env := by rfl) (hline : (apos.endLine == cpos.line) = true := by rfl) : PE X (.Call (.Attribute o name apos) [] [] cpos) (tBM0 X.K T r to) := by
  intro pins s σ H Q I h
  refine wpAny_Call_method0_late hbase hline (thn (ho pins s σ H _ I h) fun v s1 ⟨x, H1, I1, r1, ty, q1⟩ => ?_)
  obtain ⟨h1, h2⟩ := tyV_is I1 r1 ty
  exact ⟨T, id, pa, slot, hty, h1, h2, Calls.callWith_builtin rfl (PySem.evalArgs_none (hm pins s1 σ H1 x [] v [] Q I1 r1 .nil q1))⟩
theorem pe_bm (pa : PlainAttrs T) (slot : Slot T name id) (hty : typeOf (.builtin id) = pure (.type "method_descriptor")) (hm : MtR X id r) (ho : PE X o to) (ha : PA X (e :: es) t)
    (hbase : attributeBase o name X.env (eval o X.env) = eval o X.env := by rfl)
    (hfew : ((backTo cpos (starEach (e :: es) X.env)).all (fun x => !x.1) && (backToKw cpos (keywordEach [] X.env)).all (fun x => x.1.isSome)
      && decide ((e :: es).length + ([] : List Keyword).length + (if ([] : List Keyword).isEmpty then 0 else 1) < 30)) = true := by rfl)
    (hline : (apos.endLine == cpos.line) = true := by rfl) (hs : starEach (e :: es) X.env = (false, eval e X.env) :: starEach es X.env := by rfl) (hplain : (backTo cpos (starEach es X.env)).any (·.1) = false := by rfl) :
    PE X (.Call (.Attribute o name apos) (e :: es) [] cpos) (tBM X.K T r to t) := by
  intro pins s σ H Q I h
  refine wpAny_Call_method_late hbase hfew hline rfl (thn (ho pins s σ H _ I h) fun v s1 ⟨x, H1, I1, r1, ty, q1⟩ => ?_)
  obtain ⟨h1, h2⟩ := tyV_is I1 r1 ty
  refine ⟨T, id, pa, slot, hty, h1, h2, ?_⟩
  have hA := ha cpos pins s1 σ H1 _ I1 q1
  rw [hs] at hA ⊢
  refine Calls.callWith_builtin (by show (false || (backTo cpos (starEach es X.env)).any (·.1)) = false; rw [hplain] <;> rfl) (Calls.evalArgs_plain ?_)
  exact thn hA fun us s2 ⟨vs, H2, I2, r2, q2⟩ => hm pins s2 σ H2 x vs v us Q I2 r1 r2 q2
end
end L2
namespace L2
open PySem PySem.Spec PyProof.Rows
def MtM (X : Cx) (id : String) (r : V → List V → Hp → VK → Prop) : Prop :=
  ∀ (pins : List (Addr × Obj)) (s : Shared) (σ : St) (H : Hp) (x : V) (xs : List V) (v : Value) (us : List Value) (Q : VK), Inv X pins σ H s → RelV x v → Vals xs us → r x xs H Q →
    wpAny (model X.prog X.w) X.A (call (.builtin id) (v :: us)) (EP X pins σ Q) X.xe s
theorem Vals.one : ∀ {x : V} {us : List Value}, Vals [x] us → ∃ u, us = [u] ∧ RelV x u
  | _, _, .cons r .nil => ⟨_, rfl, r⟩
theorem Vals.two : ∀ {x y : V} {us : List Value}, Vals [x, y] us → ∃ u v, us = [u, v] ∧ RelV x u ∧ RelV y v
  | _, _, _, .cons r (.cons q .nil) => ⟨_, _, rfl, r, q⟩
section
variable {X : Cx} {pins : List (Addr × Obj)} {σ : St} {H : Hp} {s : Shared} {l b : Addr} {xs ys zs : List V}
theorem Inv.lset {its its' : List Value} {n : Nat} {f : Array Value → Array Value} {t' : Nat} (I : Inv X pins σ H s) (hH : H l = some (.lst xs))
    (e : s.heap.get? l = some { cls := .type "list", data := .seq its.toArray n }) (hf : f its.toArray = its'.toArray) (hv : Vals ys its') (hz : ys.length ≤ sizeLine) :
    Inv X pins σ (upd H l (.lst ys)) { s with heap := s.heap.update l (Obj.mapSeq f), toks := t' } := by
  have q := PySem.IsL.update e f
  rw [hf] at q
  refine I.write (x := l) (e := l) (by rw [hH]; exact trivial) (.inl rfl) (fun b' u hb hu => (Heap.get?_update_other s.heap (Obj.mapSeq f) (Ne.symm hb)).trans hu) ⟨_, q⟩ ?_
  exact ⟨hz, its', _, hv, q⟩
theorem Inv.lnew {its : List Value} {t' : Nat} (I : Inv X pins σ H s) (hv : Vals ys its) (hz : ys.length ≤ sizeLine) :
    Inv X pins σ (upd H s.heap.objs.size (.lst ys)) { s with heap := s.heap.push { cls := .type "list", data := .seq its.toArray }, toks := t' } :=
  I.laid (fun _ _ q => Heap.get?_push_of_some _ q) (Nat.le_refl _) ⟨hz, its, 0, hv, Heap.get?_push_size _ rfl⟩
theorem Inv.fresh (I : Inv X pins σ H s) : H s.heap.objs.size = none := I.hok.fresh (Nat.le_refl _)
theorem Inv.lstM (I : Inv X pins σ H s) (hH : H l = some (.lst xs)) : xs.length ≤ sizeLine ∧ ∃ (its : List Value) (n : Nat), Vals xs its ∧ xs.length = its.length ∧ s.heap.get? l = some { cls := .type "list", data := .seq its.toArray n } := by
  obtain ⟨z, its, n, r, e⟩ := I.hok l _ hH
  exact ⟨z, its, n, r, r.length, e⟩
theorem notLongL {n : Nat} (h : n ≤ sizeLine) : Builtin.List.listTooLong n = false := by
  unfold Builtin.List.listTooLong
  exact decide_eq_false (by omega)
end
section
variable {X : Cx}
def rAppend : V → List V → Hp → VK → Prop := fun x vs H Q => ∃ l xs y, x = .ref l ∧ vs = [y] ∧ H l = some (.lst xs) ∧ xs.length < sizeLine ∧ Q .non (upd H l (.lst (xs ++ [y])))
theorem mt_append : MtM X "list.append" rAppend := by
  intro pins s σ H x vs v us Q I rx rv h
  obtain ⟨l, xs, y, rfl, rfl, hH, hz, q⟩ := h
  cases rx
  obtain ⟨u, rfl, ru⟩ := rv.one
  obtain ⟨z, its, n, r, hl, e⟩ := I.lstM hH
  refine call_meets F.slot_list_append ⟨_, e, rfl⟩ F.entry_list_append (F.args_list_append_2 _ _) (PySem.list_append l its.toArray n u (by rw [List.size_toArray]; omega)) ⟨e, ?_⟩
  refine ⟨.non, _, I.lset (its' := its ++ [u]) hH e (by simp) (r.append (.cons ru .nil)) ?_, rfl, q⟩
  rw [List.length_append, List.length_singleton]
  omega
def rExtend : V → List V → Hp → VK → Prop := fun x vs H Q => ∃ l b xs zs, x = .ref l ∧ vs = [.ref b] ∧ H l = some (.lst xs) ∧ H b = some (.lst zs) ∧ xs.length + zs.length ≤ sizeLine ∧ Q .non (upd H l (.lst (xs ++ zs)))
theorem mt_extend : MtM X "list.extend" rExtend := by
  intro pins s σ H x vs v us Q I rx rv h
  obtain ⟨l, b, xs, zs, rfl, rfl, hH, hB, hz, q⟩ := h
  cases rx
  obtain ⟨u, rfl, ru⟩ := rv.one
  cases ru
  obtain ⟨z, its, n, r, hl, e⟩ := I.lstM hH
  obtain ⟨z2, its2, n2, r2, hl2, e2⟩ := I.lstM hB
  have hsz : its.toArray.size + its2.toArray.size ≤ sizeLine := by rw [List.size_toArray, List.size_toArray]; omega
  have hlong : ¬ (!its.toArray.isEmpty && Builtin.List.listTooLong (its.toArray.size + its2.toArray.size)) = true := by
    rw [notLongL hsz, Bool.and_false]
    exact Bool.false_ne_true
  refine call_meets F.slot_list_extend ⟨_, e, rfl⟩ F.entry_list_extend (F.args_list_extend_2 _ _)
    (AutoSeq1.list_extend_list_list_0 l its.toArray n b its2.toArray n2 hlong (by rw [List.size_toArray]; omega) (by omega)) ⟨e, e2, ?_⟩
  refine ⟨.non, _, I.lset (its' := its ++ its2) hH e (by simp) (r.append r2) ?_, rfl, q⟩
  rw [List.length_append]
  omega
def rPop : V → List V → Hp → VK → Prop := fun x vs H Q => ∃ l xs y, x = .ref l ∧ vs = [] ∧ H l = some (.lst xs) ∧ xs[xs.length - 1]? = some y ∧ Q y (upd H l (.lst xs.dropLast))
def rReverse : V → List V → Hp → VK → Prop := fun x vs H Q => ∃ l xs, x = .ref l ∧ vs = [] ∧ H l = some (.lst xs) ∧ Q .non (upd H l (.lst xs.reverse))
def rClear : V → List V → Hp → VK → Prop := fun x vs H Q => ∃ l xs, x = .ref l ∧ vs = [] ∧ H l = some (.lst xs) ∧ Q .non (upd H l (.lst []))
def rCat : R2 := fun x y H Q => ∃ l b xs zs, x = .ref l ∧ y = .ref b ∧ H l = some (.lst xs) ∧ H b = some (.lst zs) ∧ xs.length + zs.length ≤ sizeLine ∧ ∀ p, H p = none → Q (.ref p) (upd H p (.lst (xs ++ zs)))
theorem op_cat : OpR X (binaryOp .Add) rCat := by
  intro pins s σ H x y v u Q I rx ry h
  obtain ⟨l, b, xs, zs, rfl, rfl, hH, hB, hz, q⟩ := h
  cases rx
  cases ry
  obtain ⟨z, its, n, r, hl, e⟩ := I.lstM hH
  obtain ⟨z2, its2, n2, r2, hl2, e2⟩ := I.lstM hB
  refine PySem.P.add_list e e2 ?_ (by rw [List.size_toArray, List.size_toArray]; omega)
  have ea : its.toArray ++ its2.toArray = (its ++ its2).toArray := by simp
  rw [ea]
  exact ⟨.ref _, _, I.lnew (t' := s.toks) (r.append r2) (by rw [List.length_append]; omega), rfl, q _ I.fresh⟩
end
section
variable {prog : Program} {w : World} {A : Around} {E : Value → Shared → Prop} {s : Shared}
end
section
variable {X : Cx}
end
end L2
namespace L2
open PySem PySem.Spec PyProof.Rows
section
variable {κ : Type} [DecidableEq κ]
def valV (kvs : List (κ × V)) (k : κ) : Option V := (kvs.find? fun kv => decide (kv.1 = k)).map (·.2)
def putK (kvs : List (κ × V)) (k : κ) (v : V) : List (κ × V) :=
  if (kvs.any fun kv => decide (kv.1 = k)) = true then kvs.map (fun kv => if kv.1 = k then (kv.1, v) else kv) else kvs ++ [(k, v)]
theorem valV_pos {p : κ × V} {r : List (κ × V)} {k : κ} (e : p.1 = k) : valV (p :: r) k = some p.2 := by simp [valV, List.find?_cons, e]
theorem valV_neg {p : κ × V} {r : List (κ × V)} {k : κ} (e : ¬ p.1 = k) : valV (p :: r) k = valV r k := by simp [valV, List.find?_cons, e]
theorem valV_any (k : κ) : ∀ kvs : List (κ × V), (kvs.any fun kv => decide (kv.1 = k)) = (valV kvs k).isSome
  | [] => rfl
  | p :: r => by
    rw [List.any_cons]
    by_cases e : p.1 = k
    · simp only [valV_pos e, decide_eq_true e, Bool.true_or, Option.isSome_some]
    · rw [valV_neg e, decide_eq_false e, Bool.false_or]; exact valV_any k r
end
section
variable {P : Program} {w : World} {H : Hp} {h : Heap} {a : Addr}
end
def DGet (H : Hp) (a : Addr) (y : V) (r : Option V) : Prop :=
  (∃ kvs k, Rd H a (.dK kvs) ∧ y = kV k ∧ r = valV kvs k) ∨ ∃ kvs k b, Rd H a (.dT kvs) ∧ y = .ref b ∧ H b = some (.tup (k.map kV)) ∧ r = valV kvs k
section
variable {X : Cx} {pins : List (Addr × Obj)} {σ : St} {H : Hp} {s : Shared} {a : Addr} {y v : V} {u r : Value} {o : Option V} {A : Around} {E : Value → Shared → Prop}
end
section
variable {X : Cx} {pins : List (Addr × Obj)} {σ : St} {H : Hp} {s : Shared} {a : Addr} {kvs : List (Key × V)} {k : Key} {u : Value} {A : Around} {E : Value → Shared → Prop}
end
section
variable {X : Cx} {o i e value : Expr} {pos pos' tpos : Pos} {td ty tv : TE}
end
def tDNewK : TE := fun _ H Q => ∀ p, H p = none → Q (.ref p) (upd H p (.dK []))
def tDNewT : TE := fun _ H Q => ∀ p, H p = none → Q (.ref p) (upd H p (.dT []))
section
variable {X : Cx} {pos : Pos}
end
def tPairs : List (TE × TE) → St → Hp → (List (V × V) → Hp → Prop) → Prop
  | [], _, H, Q => Q [] H
  | (tk, tv) :: r, σ, H, Q => tk σ H fun x H1 => tv σ H1 fun y H2 => tPairs r σ H2 fun ps H3 => Q ((x, y) :: ps) H3
def mergeK (kvs more : List (Key × V)) : List (Key × V) := more.foldl (fun acc kv => putK acc kv.1 kv.2) kvs
def tDisp (trs : List (TE × TE)) : TE := fun σ H Q => ∀ p, H p = none → tPairs trs σ (upd H p (.dK [])) fun ps H2 => H2 p = some (.dK []) ∧ ∃ kvs : List (Key × V), ps = kvs.map (fun kv => (kV kv.1, kv.2)) ∧ kvs.length ≤ 15 ∧ Q (.ref p) (upd H2 p (.dK (mergeK [] kvs)))
def IsD (H : Hp) (a : Addr) : Prop := (∃ kvs, Rd H a (.dK kvs)) ∨ ∃ kvs, Rd H a (.dT kvs)
section
variable {X : Cx} {pins : List (Addr × Obj)} {σ : St} {H : Hp} {s : Shared} {a : Addr} {y d : V} {u r : Value} {o : Option V} {A : Around} {E : Value → Shared → Prop}
end
def tDGet1 (td ty : TE) : TE := fun σ H Q => td σ H fun x H1 => ∃ a, x = .ref a ∧ IsD H1 a ∧ ty σ H1 fun y H2 => ∃ o, DGet H2 a y o ∧ Q (o.getD .non) H2
def tDGet2 (td ty tx : TE) : TE := fun σ H Q => td σ H fun x H1 => ∃ a, x = .ref a ∧ IsD H1 a ∧ ty σ H1 fun y H2 => tx σ H2 fun z H3 => ∃ o, DGet H3 a y o ∧ Q (o.getD z) H3
section
variable {X : Cx} {o e f : Expr} {apos cpos : Pos} {td ty tx : TE}
end
section
variable {X : Cx} {pins : List (Addr × Obj)} {σ : St} {H : Hp} {s : Shared} {a : Addr} {kvs : List (Key × V)} {A : Around} {E : Value → Shared → Prop}
end
section
variable {X : Cx} {pins : List (Addr × Obj)} {σ : St} {H : Hp} {s : Shared} {a : Addr} {y : V} {u : Value} {A : Around} {E : Value → Shared → Prop}
end
end L2
namespace Att
open PySem PySem.W PySem.Calls PyProof.Rows
theorem ints_of_wellAll {P : Params} {h : Heap} : ∀ (ns : List Int) (vs : List Value), WellAll P h vs (ns.map WData.int) → IntsAre vs ns := by
  intro ns
  induction ns with
  | nil =>
    intro vs w
    rw [List.map_nil] at w
    cases w
    exact .nil
  | cons n ns ih =>
    intro vs w
    rw [List.map_cons] at w
    cases w with
    | cons a b =>
      cases a
      exact .cons _ _ (ih _ b)
theorem script_of {l : OpenLaw} {n : Nat} (hn : l.most = some n) {P : Params} {h : Heap} {args : List WData} {vals : List Value}
    (hpre : l.row.toRowW.claim.pre args = true) (hwl : WellAll P h vals args) :
    ∃ a vs ns, vals = [Value.ref a] ∧ args = [WData.list (ns.map WData.int)] ∧ h.get? a = some { cls := .type "list", data := .seq vs.toArray } ∧ IntsAre vs ns ∧ ns.length ≤ n := by
  have hsh : WShape.hasAll [] args [.list .int] = true := (pre_splitW hpre).1
  have hc : l.pre.holds [] { args := args } = true := (pre_splitW hpre).2
  obtain ⟨d, r, rfl, h1, h2⟩ := hasAllW_cons hsh
  obtain rfl := hasAllW_nil h2
  obtain ⟨xs, rfl, h3⟩ := hasW_list h1
  obtain ⟨ns, rfl⟩ := items_int h3
  have hlen : ns.length ≤ n := by
    unfold OpenLaw.pre at hc
    have h4 : (WTm.not (.lt (.lit (.int (n : Int))) (.len (.arg 0)))).holds [] { args := [.list (ns.map .int)] } = true := by
      have h4 := (holds_andW hc).1
      rw [hn] at h4
      exact h4
    have h5 := condW_of h4 (w_not (w_lt w_lit (w_len_list (w_arg rfl))))
    rw [List.length_map] at h5
    refine Nat.le_of_not_lt fun q => ?_
    have q' : (n : Int) < ((ns.length : Nat) : Int) := by omega
    first
      | (rw [decide_eq_true q'] at h5; exact absurd h5 (by decide))
      | (simp at h5; omega)
  cases hwl with
  | cons w1 w2 =>
    cases w2
    cases w1 with
    | list ho hall => exact ⟨_, _, ns, rfl, rfl, ho, ints_of_wellAll ns _ hall, hlen⟩
theorem post_true (l : OpenLaw) (args : List WData) : l.row.toRowW.claim.post args (.bool true) args = true :=
  postW_of (r := l.row.toRowW) (X := (true == true))
    (show WShape.has [] (.bool true) .bool = true by first | rfl | decide | simp [WShape.has, WShape.arms, WShape.armsAll])
    (show (WTm.eq .res (.lit (.bool true))).value [] { args := args, res := some (.bool true), after := args } = some (.bool (true == true)) from w_eq_bool (w_res rfl) w_lit) rfl
theorem attach_call {l : OpenLaw} {n : Nat} {q : Program} {loose : List Str} {XP : (Str → Option Value) → Heap → Prop} {YP : World → Heap → Prop} {d : DefRec}
    (hn : l.most = some n) (hdf : d.params.defaults = [])
    (call : ∀ (w : World) (s₀ s₁ : Shared) (mg mb : Str → Option Value) (fa : Addr) (o : Obj) (pm cd doc : Value) (a : Addr) (vs : List Value) (ns : List Int),
      Ground q loose [] XP w s₀ mg mb s₁.heap → YP w s₁.heap →
      s₁.heap.get? fa = some o → o.data = .func (docDef d.name d.params d.body d.scope pm cd doc) → s₁.heap.CodeRec cd d.name → mg d.name = some (.ref fa) →
      s₁.heap.get? a = some { cls := .type "list", data := .seq vs.toArray } → IntsAre vs ns → ns.length ≤ n → s₁.gens = #[] →
      codeAny (model l.prog w) callerA (.call (.ref fa) ⟨[.ref a], []⟩) (fun r s' => r = .ok (.ret (.bool true)) ∧ OldK s₁.heap s'.heap ∧ s'.os = s₁.os ∧ AllBare s'.gens) s₁) :
    WalkO q loose XP YP l.row.toRowW d [] (fun f vs => PySem.call f vs) := by
  intro w s₀ s₁ mg mb G Y fa o pm cd doc dV kV ho hd hcd hD hmg hg args vals as hpre hlay hrd hwl hlo
  obtain rfl : dV = .none := Dflts.none hD hdf
  obtain rfl : kV = .none := Dflts.noKw hD
  obtain ⟨a, vs, ns, rfl, rfl, hobj, hints, hlen⟩ := script_of hn hpre hwl
  refine enter_call (codeAny_mono (call w s₀ s₁ mg mb fa o pm cd doc a vs ns G Y ho (fd_plain hd) hcd hmg hobj hints hlen hg) fun r s' hq => ?_)
  obtain ⟨rfl, h2, h3, h4⟩ := hq
  exact ⟨.inl ⟨.bool true, .bool true, [], rfl, fun _ => rfl, .bool true, post_true l _, fun _ => ⟨List.Pairwise.nil, fun _ hm => (nomatch hm)⟩⟩, h2, h3, h4⟩
section
variable {prog : Program} {w : World} {A : Around} {E : Value → Shared → Prop} {s : Shared} {K : Frag}
end
end Att
namespace L2
open PySem PySem.Spec PyProof.Rows
theorem vals_ints : ∀ {vs : List Value} {ns : List Int}, IntsAre vs ns → Vals (ns.map V.int) vs
  | _, _, .nil => .nil
  | _, _, .cons n t h => .cons ⟨t, rfl⟩ (vals_ints h)
def Only (H : Hp) : Prop := ∀ b, H b = none ∨ ∃ o xs, H b = some (.frz o (.lst xs))
theorem law_call {P : Program} {w : World} {K : PySem.W.Frag} {mg mb : Str → Option Value} {CX : CXT} {k : Nat} {fa a : Addr} {fd : FuncData} {x : Str} {sp : Sp} {s₁ : Shared} {vs : List Value} {ns : List Int}
    (KX : K.In s₁.heap) (hns : s₁.heap.Ns mainGlobals mg) (hb : s₁.heap.Ns builtinsNs mb) (hbb : ∀ x : Str, x ≠ "__name__" → mb x = bootBuiltins x) (hlim : s₁.heap.NoLimit) (hg : s₁.gens = #[])
    (ha : s₁.heap.get? a = some { cls := .type "list", data := .seq vs.toArray }) (hi : IntsAre vs ns) (hl : ns.length ≤ sizeLine) (hr : Room k callerA)
    (F : ∀ base : Heap, K.In base → base.Ns mainGlobals mg → FnOk P w K mg base CX k fa fd [x] sp) (hbind : ∀ (s : Shared) (u : Value), BindsTo s fd ⟨[u], []⟩ [(x, u)])
    (hsp : ∀ H : Hp, Only H → SqL K H a (ns.map V.int) → sp [.ref a] H (fun v _ => v = .bl true) fun _ _ _ => False)
    (hCX : ∀ H e s', CX [] H s₁ (fun _ _ _ => False) e s' → False) :
    codeAny (model P w) callerA (.call (.ref fa) ⟨[.ref a], []⟩) (fun r s' => r = .ok (.ret (.bool true)) ∧ OldK s₁.heap s'.heap ∧ s'.os = s₁.os ∧ AllBare s'.gens) s₁ := by
  have rv := vals_ints hi
  have lenV := hi.length
  -- from an abstract heap in which nothing but the script may be tracked
  have core : ∀ H : Hp, Only H → SqL K H a (ns.map V.int) → HOk P w H s₁.heap → (∀ b, H b ≠ none → b = a) → (H a ≠ none → K.lookup a = none) →
      codeAny (model P w) callerA (.call (.ref fa) ⟨[.ref a], []⟩) (fun r s' => r = .ok (.ret (.bool true)) ∧ OldK s₁.heap s'.heap ∧ s'.os = s₁.os ∧ AllBare s'.gens) s₁ := by
    intro H hO hS hok hA hK
    have base_of : ∀ {b : Addr} {o : Obj}, s₁.heap.get? b = some o → H b = none → (hidT s₁.heap H).get? b = some o := fun e n => hidT_get e n
    have noA : ∀ {b : Addr} {o : Obj} {es : Array DictEntry} {ep : Nat}, s₁.heap.get? b = some o → o.data = .dict es ep → H b = none := fun {b o es ep} e d => by
      cases q : H b with
      | none => rfl
      | some u =>
        have e' : b = a := hA b (by rw [q]; simp)
        subst e'
        rw [ha] at e; cases e
        have d' : Data.seq vs.toArray _ = Data.dict es ep := d
        cases d'
    have nsK : ∀ {b : Addr} {m : Str → Option Value}, s₁.heap.Ns b m → (hidT s₁.heap H).Ns b m := fun {b m} ⟨o, es, ep, e, d, r⟩ => ⟨o, es, ep, base_of e (noA e d), d, r⟩
    have hKb : K.In (hidT s₁.heap H) := fun b o e => base_of (KX b o e) (by
      cases q : H b with
      | none => rfl
      | some u =>
        have e' : b = a := hA b (by rw [q]; simp)
        subst e'
        rw [hK (by rw [q]; simp)] at e; cases e)
    have hM : Mod K mg (hidT s₁.heap H) := ⟨hKb, nsK hns, ⟨mb, nsK hb, hbb⟩, let ⟨mc, h1, h2⟩ := hlim; ⟨mc, nsK h1, h2⟩⟩
    have e0 : Env0 P w K mg (hidT s₁.heap H) callerA [] s₁ H := ⟨rfl, hM, fun b o e => of_hidT e, Nat.le_of_eq (hidT_size _ _), trivial, fun b hb => absurd (show b ∈ ([] : List Addr) from hb) (by simp), hok, .of_eq hg⟩
    refine codeAny_mono ((F _ hKb (nsK hns)).run callerA [] s₁ H ⟨[.ref a], []⟩ [.ref a] [.ref a] _ _ hr e0 (hbind s₁ (.ref a)) (.cons rfl .nil) (hsp H hO hS)) fun r s' h => ?_
    cases r with
    | error e => exact (hCX H e s' h).elim
    | ok fl =>
      cases fl with
      | next => exact False.elim h
      | brk => exact False.elim h
      | cont => exact False.elim h
      | ret u =>
        obtain ⟨v, H', os, bare, un, hok', r', q⟩ := h
        have q' : v = .bl true := q
        subst q'
        obtain rfl : u = Value.bool true := r'
        refine ⟨rfl, OldK.of_keep fun b o e => ?_, os, bare⟩
        cases q : H b with
        | none => exact un.keep b o e q (by intro z; exact absurd (show b ∈ ([] : List Addr) from z) (by simp)) (by simp)
        | some u =>
          rcases hO b with z | ⟨ob, xs, z⟩
          · rw [q] at z; cases z
          · have z2 := un.frzs b ob _ z
            obtain ⟨e1, _⟩ := hok b _ z
            obtain ⟨e2, _⟩ := hok' b _ z2
            rw [e] at e1; cases e1
            exact e2
  cases hk : K.lookup a with
  | some o =>
    -- the script is one of the module's own objects
    have e := KX a o hk
    rw [ha] at e
    cases e
    refine core (fun _ => none) (fun _ => .inl rfl) (.inr ⟨_, vs.toArray, _, hk, rfl, rfl, rfl, by rw [List.size_toArray, lenV]; exact hl, by simpa using rv⟩) (fun b u z => by have z' : (none : Option HO) = some u := z; cases z') (fun b z => absurd rfl z) fun z => absurd rfl z
  | none =>
    refine core (fun b => if b = a then some (.frz { cls := .type "list", data := .seq vs.toArray } (.lst (ns.map V.int))) else none) (fun b => ?_) (.inl (.inr ⟨{ cls := .type "list", data := .seq vs.toArray }, if_pos rfl⟩)) (fun b u z => ?_) (fun b z => ?_) fun _ => hk
    · by_cases hb : b = a
      · exact .inr ⟨_, _, if_pos hb⟩
      · exact .inl (if_neg hb)
    · by_cases hb : b = a
      · have z' := (if_pos hb).symm.trans z
        cases z'
        subst hb
        exact ⟨ha, by rw [List.length_map]; exact hl, vs, _, rv, ha⟩
      · have z' := (if_neg hb).symm.trans z
        cases z'
    · by_cases hb : b = a
      · exact hb
      · exact absurd (if_neg hb) z
end L2
namespace L2
open PySem PySem.Spec PyProof.Rows
theorem walk_of {l : PySem.W.OpenLaw} {n k : Nat} {q : Program} {loose : List Str} {XP : (Str → Option Value) → Heap → Prop} {YP : World → Heap → Prop} {d : DefRec} {K : Params → PySem.W.Frag} {CX : World → CXT} {sp : World → Sp} {x : Str}
    (hn : l.most = some n) (hn2 : n ≤ sizeLine) (hdf : d.params.defaults = []) (hr : Room k callerA)
    (hY : ∀ (w : World) (h : Heap), YP w h → (K w.params).In h)
    (F : ∀ (w : World) (mg : Str → Option Value) (fa : Addr) (h : Heap), (K w.params).In h → h.Ns mainGlobals mg → mg d.name = some (.ref fa) →
      ∃ fd : FuncData, (∀ (s : Shared) (u : Value), BindsTo s fd ⟨[u], []⟩ [(x, u)]) ∧
        ∀ base : Heap, (K w.params).In base → base.Ns mainGlobals mg → FnOk l.prog w (K w.params) mg base (CX w) k fa fd [x] (sp w))
    (hsp : ∀ (w : World) (H : Hp) (a : Addr) (ns : List Int), ns.length ≤ n → Only H → SqL (K w.params) H a (ns.map V.int) → sp w [.ref a] H (fun v _ => v = .bl true) fun _ _ _ => False)
    (hCX : ∀ (w : World) (H : Hp) (s : Shared) (e : Value) (s' : Shared), CX w [] H s (fun _ _ _ => False) e s' → False) :
    PySem.W.WalkO q loose XP YP l.row.toRowW d [] (fun f vs => PySem.call f vs) := by
  refine Att.attach_call hn hdf fun w s₀ s₁ mg mb fa o pm cd doc a vs ns G Y ho hd hcd hmg hobj hints hlen hg => ?_
  have KX := hY w _ Y
  obtain ⟨fd, hb, hF⟩ := F w mg fa _ KX G.T.g hmg
  exact law_call KX G.T.g G.T.b G.T.builtins G.T.nolimit hg hobj hints (Nat.le_trans hlen hn2) hr hF hb (fun H hO hS => hsp w H a ns hlen hO hS) fun H e s' => hCX w H s₁ e s'
end L2
namespace L2
open PySem PySem.Spec PyProof.Rows
def defArgs (s : Stmt) : Arguments := match s with
  | .FunctionDef _ a _ _ _ _ _ _ _ _ => a
  | _ => { posonlyargs := [], args := [], vararg := none, kwonlyargs := [], kw_defaults := [], kwarg := none, defaults := [] }
def defBody (s : Stmt) : List Stmt := match s with
  | .FunctionDef _ _ b _ _ _ _ _ _ _ => b
  | _ => []
def defScope (s : Stmt) : Scope := match s with
  | .FunctionDef _ _ _ _ _ _ sc _ _ _ => sc
  | _ => { kind := .function, names := [], isGenerator := false, isCoroutine := false }
abbrev CX0 : CXT := fun _ _ _ _ _ _ => False
abbrev E0 : XK := fun _ _ _ => False
theorem pass0 {X : Cx} : Passes CX0 X E0 := fun _ _ _ _ _ _ _ h => h.elim
structure Fun (K : PySem.W.Frag) (x qual : Str) (st : Stmt) (f : Addr) (fd : FuncData) : Prop where
  ex : ∃ (oc : Value) (od : Option Addr) (kV doc pm : Value) (an : Option Addr) (cdv ct : Value) (osl : Array (Option Value)),
    fd = PySem.W.fnOf x qual (defArgs st) (defBody st) (defScope st) .none kV doc pm an cdv ct ∧ K.lookup f = some ⟨oc, od, .func fd, osl⟩ ∧ PySem.W.codeIn K cdv qual = true
  kp : PySem.W.keepIn K (.ref f) = true
section
variable {P : Program} {w : World} {K : PySem.W.Frag} {mg : Str → Option Value} {base : Heap}
theorem Fun.ok {x qual : Str} {st : Stmt} {f : Addr} {fd : FuncData} {N ps : List Str} {k : Nat} {sp : Sp} (F : Fun K x qual st f fd) (S : FnScope N ps (defScope st)) (len : ∀ vs H Q E, sp vs H Q E → vs.length = ps.length)
    (hbody : ∀ (cdv : Value) (A : Around) (outer : List Env) (s : Shared) (H : Hp) (vs : List V) (Q : VK) (E : XK), Room k (A.deeper (envOfC qual (defScope st) s.heap.objs.size f cdv)) → sp vs H Q E →
      ∃ t, PSs (cxOf CX0 P w K mg base N qual (defScope st) f cdv A outer s H E).nox (defBody st) t ∧ t { nx := fun _ H' => Q .non H', rt := Q } (start N vs) H) : FnOk P w K mg base CX0 (k + 1) f fd ps sp := by
  obtain ⟨oc, od, kV, doc, pm, an, cdv, ct, osl, rfl, lk, hcd⟩ := F.ex
  refine fn_of lk hcd S len fun A outer s H vs Q E hr hsp => ?_
  obtain ⟨t, h, q⟩ := hbody cdv A outer s H vs Q E hr hsp
  exact ⟨t, h.nox, q⟩
theorem Fun.binds {x qual : Str} {st : Stmt} {f : Addr} {fd : FuncData} {ps : List Str} (F : Fun K x qual st f fd)
    (h : ∀ (kV doc pm : Value) (an : Option Addr) (cdv ct : Value) (us : List Value), us.length = ps.length → bindArgs (PySem.W.fnOf x qual (defArgs st) (defBody st) (defScope st) .none kV doc pm an cdv ct) ⟨us, []⟩ = pure (ps.zip us)) : Binds K fd ps [] := by
  obtain ⟨oc, od, kV, doc, pm, an, cdv, ct, osl, rfl, lk, hcd⟩ := F.ex
  exact .all (h kV doc pm an cdv ct)
theorem fun_mk {x qual : Str} {st : Stmt} {f : Addr} {oc : Value} {od an : Option Addr} {osl : Array (Option Value)} {kV doc pm cdv ct : Value} (l : K.lookup f = some ⟨oc, od, .func (PySem.W.fnOf x qual (defArgs st) (defBody st) (defScope st) .none kV doc pm an cdv ct), osl⟩)
    (c : PySem.W.codeIn K cdv qual = true) (k : PySem.W.keepIn K (.ref f) = true) : Fun K x qual st f (PySem.W.fnOf x qual (defArgs st) (defBody st) (defScope st) .none kV doc pm an cdv ct) := ⟨⟨oc, od, kV, doc, pm, an, cdv, ct, osl, rfl, l, c⟩, k⟩
end
theorem small1000 {n : Nat} (h : n ≤ 1000) : n < sizeLine := Nat.lt_of_le_of_lt h (by decide)
section
variable {X : Cx}
theorem pv (i : Nat) {x : Str} {pos : Pos} (hN : X.N[i]? = some x := by rfl) (hv : Vis X.env.scope x := by first | exact Or.inl rfl | exact Or.inr (Or.inl rfl) | exact Or.inr (Or.inr rfl)) (hd : (x == ("__debug__" : Str)) = false := by decide)
    (hcd : (x == ("__classdict__" : Str)) = false := by decide) : PE X (.Name x pos) (tVar i) := pe_var hN hv hd hcd
end
theorem ite2 {c A B : Prop} [Decidable c] (h1 : c → A) (h2 : ¬ c → B) : if c then A else B := by
  by_cases h : c
  · rw [if_pos h]
    exact h1 h
  · rw [if_neg h]
    exact h2 h
def Same (H H' : Hp) : Prop := ∀ b o, H b = some o → H' b = some o
theorem Same.refl (H : Hp) : Same H H := fun _ _ h => h
theorem Same.trans {H H1 H2 : Hp} (a : Same H H1) (b : Same H1 H2) : Same H H2 := fun c o h => b c o (a c o h)
theorem Same.free {H H' : Hp} (e : Same H H') {l : Addr} (h : H' l = Option.none) : H l = Option.none := by
  cases q : H l with
  | none => rfl
  | some o =>
    rw [e l o q] at h
    cases h
theorem Same.seq {K : PySem.W.Frag} {H H' : Hp} {a : Addr} {xs : List V} (e : Same H H') (h : SqL K H a xs) : SqL K H' a xs := by
  rcases h with (h | ⟨o, h⟩) | h
  · exact .inl (.inl (e _ _ h))
  · exact .inl (.inr ⟨o, e _ _ h⟩)
  · exact .inr h
end L2
namespace L2
open PySem PySem.Spec PyProof.Rows
section
variable {X : Cx}
end
end L2
namespace L2
open PySem PySem.Spec PyProof.Rows
section
variable {κ : Type} [DecidableEq κ]
end
end L2
set_option Elab.async false
set_option linter.all false
set_option maxRecDepth 100000
namespace L2
open PySem PySem.Spec PyProof.Rows
section
variable {σ : St} {H : Hp} {Q : VK} {D : Ends}
theorem w_var {i : Nat} : tVar i σ H Q = ∃ v, σ[i]? = some (some v) ∧ Q v H := rfl
theorem w_C {v : V} : tC v σ H Q = Q v H := rfl
theorem w_op {r : R2} {ta tb : TE} : tOp r ta tb σ H Q = ta σ H fun x H1 => tb σ H1 fun y H2 => r x y H2 Q := rfl
theorem w_un {r : V → Hp → VK → Prop} {ta : TE} : tUn r ta σ H Q = ta σ H fun x H1 => r x H1 Q := rfl
theorem w_rI {C : Int → Int → Prop} {g : Int → Int → V} {i j : Int} : rI C g (.int i) (.int j) H Q = (C i j ∧ Q (g i j) H) :=
  propext ⟨fun ⟨a, b, e1, e2, c, q⟩ => by cases e1; cases e2; exact ⟨c, q⟩, fun ⟨c, q⟩ => ⟨i, j, rfl, rfl, c, q⟩⟩
theorem w_rI0 {g : Int → Int → V} {i j : Int} : rI0 g (.int i) (.int j) H Q = Q (g i j) H :=
  propext ⟨fun ⟨a, b, e1, e2, q⟩ => by cases e1; cases e2; exact q, fun q => ⟨i, j, rfl, rfl, q⟩⟩
theorem w_rU {g : Int → V} {i : Int} : rU g (.int i) H Q = Q (g i) H :=
  propext ⟨fun ⟨a, e1, q⟩ => by cases e1; exact q, fun q => ⟨i, rfl, q⟩⟩
theorem w_eqI {i j : Int} : rEq (.int i) (.int j) H Q = Q (.bl (decide (i = j))) H :=
  propext (by
    have e : decide (V.int i = V.int j) = decide (i = j) := by by_cases h : i = j <;> simp [h]
    unfold rEq; rw [e]; exact ⟨fun h => h.2, fun h => ⟨rfl, h⟩⟩)
theorem w_neI {i j : Int} : rNe (.int i) (.int j) H Q = Q (.bl (!decide (i = j))) H :=
  propext (by
    have e : decide (V.int i = V.int j) = decide (i = j) := by by_cases h : i = j <;> simp [h]
    unfold rNe; rw [e]; exact ⟨fun h => h.2, fun h => ⟨rfl, h⟩⟩)
theorem w_seq {t u : TS} : tSeq t u D σ H = t { D with nx := u D } σ H := rfl
theorem w_next : tNext D σ H = D.nx σ H := rfl
theorem w_break : tBreak D σ H = D.bk σ H := rfl
theorem w_cont : tCont D σ H = D.ct σ H := rfl
theorem w_ifS {c : TT} {t u : TS} : tIfS c t u D σ H = c σ H fun b H1 => if b = true then t D σ H1 else u D σ H1 := rfl
theorem w_ret {te : TE} : tRet te D σ H = te σ H D.rt := rfl
theorem w_retN : tRetN D σ H = D.rt .non H := rfl
theorem w_drop {te : TE} : tDrop te D σ H = te σ H fun _ H1 => D.nx σ H1 := rfl
theorem w_asg {te : TE} {g : TG} : tAsg te g D σ H = te σ H fun x H1 => g x σ H1 D.nx := rfl
theorem w_gName {i : Nat} {v : V} {R : St → Hp → Prop} : gName i v σ H R = R (σ.set i (some v)) H := rfl
theorem w_gSub {to ti : TE} {t : TSet} {v : V} {R : St → Hp → Prop} : gSub to ti t v σ H R = to σ H fun o H1 => ti σ H1 fun i H2 => t o i v H2 fun H3 => R σ H3 := rfl
theorem w_test {t : TE} {R : Bool → Hp → Prop} : tTest t σ H R = t σ H fun x H' => ∃ k, x = .bl k ∧ R k H' := rfl
theorem w_B {t : TE} {R : Bool → Hp → Prop} : tB t σ H R = t σ H fun x H' => ∃ k, x = .bl k ∧ R k H' := rfl
theorem w_and {t u : TT} {R : Bool → Hp → Prop} : tAnd t u σ H R = t σ H fun c H1 => if c = true then u σ H1 R else R false H1 := rfl
theorem w_or {t u : TT} {R : Bool → Hp → Prop} : tOr t u σ H R = t σ H fun c H1 => if c = true then R true H1 else u σ H1 R := rfl
theorem w_not {t : TT} {R : Bool → Hp → Prop} : tNot t σ H R = t σ H fun c H1 => R (!c) H1 := rfl
theorem w_andV {ta tb : TE} : tAndV ta tb σ H Q = ta σ H fun x H1 => ∃ c, x = .bl c ∧ if c = true then tb σ H1 Q else Q (.bl false) H1 := rfl
theorem w_orV {ta tb : TE} : tOrV ta tb σ H Q = ta σ H fun x H1 => ∃ c, x = .bl c ∧ if c = true then Q (.bl true) H1 else tb σ H1 Q := rfl
theorem w_notV {ta : TE} : tNotV ta σ H Q = ta σ H fun x H1 => ∃ c, x = .bl c ∧ Q (.bl (!c)) H1 := rfl
theorem w_if {t : TT} {ta tb : TE} : tIf t ta tb σ H Q = t σ H fun c H1 => if c = true then ta σ H1 Q else tb σ H1 Q := rfl
theorem w_call {sp : Sp} {dvs : List V} {E : XK} {t : TA} : tCall sp dvs E t σ H Q = t σ H fun vs H1 => sp (vs ++ dvs) H1 Q E := rfl
theorem w_nil {R : List V → Hp → Prop} : tNil σ H R = R [] H := rfl
theorem w_cons {ta : TE} {tr : TA} {R : List V → Hp → Prop} : tCons ta tr σ H R = ta σ H fun x H1 => tr σ H1 fun xs H2 => R (x :: xs) H2 := rfl
theorem w_CB {r : List V → Hp → VK → Prop} {t : TA} : tCB r t σ H Q = t σ H fun vs H1 => r vs H1 Q := rfl
theorem w_lst {t : TA} : tLst t σ H Q = t σ H fun xs H1 => xs.length ≤ sizeLine ∧ ∀ p, H1 p = none → Q (.ref p) (upd H1 p (.lst xs)) := rfl
theorem w_tup {t : TA} : tTup t σ H Q = t σ H fun xs H1 => xs.length ≤ sizeLine ∧ ∀ p, H1 p = none → Q (.ref p) (upd H1 p (.tup xs)) := rfl
theorem w_isN {ta : TE} : tIsN ta σ H Q = ta σ H fun x H1 => Q (.bl (decide (x = .non))) H1 := rfl
theorem w_notN {ta : TE} : tNotN ta σ H Q = ta σ H fun x H1 => Q (.bl (!decide (x = .non))) H1 := rfl
theorem w_chain {r r' : R2} {ta tb tc : TE} : tChain r r' ta tb tc σ H Q = (ta σ H fun x H1 => tb σ H1 fun y H2 => r x y H2 fun z H3 => ∃ k, z = .bl k ∧
  if k = true then tc σ H3 fun w H4 => r' y w H4 Q else Q (.bl false) H3) := by first | rfl | (unfold tChain; rfl)
end
section
variable {X : Cx} {st : Stmt} {rest : List Stmt} {t u : TS}
def tMid (t u : TS) : TS := fun D σ H => ∃ mid : St → Hp → Prop, t { D with nx := mid } σ H ∧ ∀ σ' H', mid σ' H' → u D σ' H'
theorem pss_mid (h1 : PS X st t) (h2 : PSs X rest u) : PSs X (st :: rest) (tMid t u) := by
  intro pins s σ H D I h
  obtain ⟨mid, q, k⟩ := h
  refine wpAny_execs_cons (thn (h1 pins s σ H { D with nx := mid } I q) fun f s1 q => ?_)
  cases f with
  | next =>
    obtain ⟨σ', H', I', q⟩ := q
    exact h2 pins s1 σ' H' D I' (k _ _ q)
  | ret v => exact q
  | brk => exact q
  | cont => exact q
end
structure Cal (P : Program) (w : World) (K : PySem.W.Frag) (mg : Str → Option Value) (base : Heap) (k : Nat) (x : Str) (ps : List Str) (sp : Sp) : Prop where
  ex : ∃ (f : Addr) (fd : FuncData), FnOk P w K mg base CX0 k f fd ps sp ∧ mg x = some (.ref f) ∧ PySem.W.keepIn K (.ref f) = true ∧ Binds K fd ps []
theorem Cal.mono {P : Program} {w : World} {K : PySem.W.Frag} {mg : Str → Option Value} {base : Heap} {j k : Nat} {x : Str} {ps : List Str} {sp : Sp} (C : Cal P w K mg base j x ps sp) (h : j ≤ k) : Cal P w K mg base k x ps sp := by
  obtain ⟨f, fd, a, b, c, d⟩ := C.ex
  exact ⟨f, fd, a.mono h, b, c, d⟩
theorem Cal.imp {P : Program} {w : World} {K : PySem.W.Frag} {mg : Str → Option Value} {base : Heap} {k : Nat} {x : Str} {ps : List Str} {sp sp' : Sp} (C : Cal P w K mg base k x ps sp) (h : ∀ vs H Q E, sp' vs H Q E → sp vs H Q E) : Cal P w K mg base k x ps sp' := by
  obtain ⟨f, fd, a, b, c, d⟩ := C.ex
  exact ⟨f, fd, a.imp h, b, c, d⟩
section
variable {X : Cx} {k : Nat} {x : Str} {ps : List Str} {sp : Sp} {e : Expr} {es : List Expr} {t : TA} {p pos : Pos}
theorem pe_cal (C : Cal X.prog X.w X.K X.mg X.base k x ps sp) (hr : Room k X.A) (hg : Gl X x) (ha : PA X (e :: es) t) (hd : (x == ("__debug__" : Str)) = false := by decide)
    (he : starEach (e :: es) X.env = (false, eval e X.env) :: starEach es X.env := by rfl) (hpl : (backTo pos (starEach es X.env)).any (·.1) = false := by rfl) : PE X (.Call (.Name x p) (e :: es) [] pos) (tCall sp [] E0 t) := by
  obtain ⟨f, fd, a, b, c, d⟩ := C.ex
  exact pe_call a hr hg b c d .nil pass0 ha hd he hpl
end
theorem bits_le {i : Int} {n : Nat} (h : i.natAbs < 2 ^ n) : Builtin.Int.intBits i ≤ n := by
  unfold Builtin.Int.intBits
  split
  · exact Nat.zero_le _
  · rename_i h0
    have hp : i.natAbs ≠ 0 := by
      intro z
      exact h0 (by simpa using z)
    have : i.natAbs.log2 < n := (Nat.log2_lt hp).mpr h
    omega
def CShl (i j : Int) : Prop := 0 ≤ j ∧ j ≤ 1000000 ∧ Builtin.Int.intBits i ≤ 1000000
def CDivB (i j : Int) : Prop := 0 < j ∧ j.natAbs.log2 < 9000
section
variable {X : Cx}
theorem op_shlB : OpR X (binaryOp .LShift) (rI CShl fun i j => .int (i * 2 ^ j.toNat)) := opI fun i j _ _ _ _ _ hc q => lshift_int hc.1 (by have h1 := hc.2.1; have h2 := hc.2.2; omega) q
theorem op_mulB : OpR X (binaryOp .Mult) (rI IntMulOk fun i j => .int (i * j)) := opI fun _ _ _ _ _ _ _ hc q => mul_int q hc
theorem op_fdivB : OpR X (binaryOp .FloorDiv) (rI CDivB fun i j => .int (i / j)) := opI fun i j _ _ _ _ _ hc q => by
  have e : i / j = i.fdiv j := (Int.fdiv_eq_ediv_of_nonneg i (Int.le_of_lt hc.1)).symm
  rw [e] at q
  exact floordiv_int (by have := hc.1; omega) q (.inl (PyProof.noPylong_of_log2 hc.2))
def rIsI (K : PySem.W.Frag) : List V → Hp → VK → Prop := fun xs H Q => ∃ x T t b, xs = [x, .ty T] ∧ TyOf K H x t ∧ PySem.W.kitOne K t (.type T) = some b ∧ Q (.bl b) H
theorem call_isI : CallR X (.builtin "isinstance") (rIsI X.K) := by
  intro pins s σ H xs us Q I r h
  obtain ⟨x, T, t, b, rfl, ty, e, q⟩ := h
  obtain ⟨u1, u2, rfl, r1, r2⟩ := Vals.two r
  cases r2
  exact isinst_ok I r1 ty e fun tk => ⟨.bl b, H, I.tok _, rfl, q⟩
end
theorem mul_l {i j : Int} (h1 : -(2 ^ 64) < i) (h2 : i < 2 ^ 64) : IntMulOk i j := .of_left (intBits_le_64 h1 h2)
theorem mul_r {i j : Int} (h1 : -(2 ^ 64) < j) (h2 : j < 2 ^ 64) : IntMulOk i j := .of_right (intBits_le_64 h1 h2)
theorem mul_b {i j : Int} {m n : Nat} (h1 : i.natAbs < 2 ^ m) (h2 : j.natAbs < 2 ^ n) (h : m + n ≤ 2 ^ 27) : IntMulOk i j := by
  have a := bits_le h1
  have b := bits_le h2
  unfold IntMulOk
  have c : Builtin.Int.intTooBig (((Builtin.Int.intBits i + Builtin.Int.intBits j : Nat) : Int)) = false := decide_eq_false (Int.not_lt.mpr (show ((Builtin.Int.intBits i + Builtin.Int.intBits j : Nat) : Int) ≤ 2 ^ 27 by omega))
  intro z
  rw [Bool.and_eq_true] at z
  have z2 := z.2
  first | (rw [show ((Builtin.Int.intBits i : Nat) : Int) + ((Builtin.Int.intBits j : Nat) : Int) = ((Builtin.Int.intBits i + Builtin.Int.intBits j : Nat) : Int) from rfl, c] at z2; cases z2) | (simp [c] at z2)
theorem kit_same {K : PySem.W.Frag} (T : String) : PySem.W.kitOne K (.type T) (.type T) = some true := by unfold PySem.W.kitOne; rw [if_pos (by simp)]
theorem kit_int_bool {K : PySem.W.Frag} : PySem.W.kitOne K (.type "int") (.type "bool") = some false := by first | rfl | decide +kernel | (unfold PySem.W.kitOne PySem.W.kitCls; decide +kernel)
theorem kit_bool_int {K : PySem.W.Frag} : PySem.W.kitOne K (.type "bool") (.type "int") = some true := by first | rfl | decide +kernel
theorem kit_non_int {K : PySem.W.Frag} : PySem.W.kitOne K (.type "NoneType") (.type "int") = some false := by first | rfl | decide +kernel
theorem kit_str_int {K : PySem.W.Frag} : PySem.W.kitOne K (.type "str") (.type "int") = some false := by first | rfl | decide +kernel
end L2
set_option Elab.async false
set_option linter.all false
set_option maxRecDepth 100000
namespace L2
open PySem PySem.Spec PyProof.Rows
theorem bo_len : bootBuiltins "len" = some (.builtin "len") := by decide +kernel
theorem bo_abs : bootBuiltins "abs" = some (.builtin "abs") := by decide +kernel
theorem bo_min : bootBuiltins "min" = some (.builtin "min") := by decide +kernel
theorem bo_max : bootBuiltins "max" = some (.builtin "max") := by decide +kernel
theorem bo_all : bootBuiltins "all" = some (.builtin "all") := by decide +kernel
theorem bo_any : bootBuiltins "any" = some (.builtin "any") := by decide +kernel
theorem bo_isinstance : bootBuiltins "isinstance" = some (.builtin "isinstance") := by decide +kernel
theorem bo_int : bootBuiltins "int" = some (.type "int") := by decide +kernel
theorem bo_bool : bootBuiltins "bool" = some (.type "bool") := by decide +kernel
theorem bo_list : bootBuiltins "list" = some (.type "list") := by decide +kernel
theorem bo_tuple : bootBuiltins "tuple" = some (.type "tuple") := by decide +kernel
theorem bo_set : bootBuiltins "set" = some (.type "set") := by decide +kernel
theorem bo_zip : bootBuiltins "zip" = some (.type "zip") := by decide +kernel
theorem bo_reversed : bootBuiltins "reversed" = some (.type "reversed") := by decide +kernel
def CPowB (i j : Int) : Prop := 0 ≤ j ∧ j ≤ 1000000 ∧ -(2 ^ 64) < i ∧ i < 2 ^ 64
section
variable {X : Cx}
theorem op_powB : OpR X (binaryOp .Pow) (rI CPowB fun i j => .int (i ^ j.toNat)) := opI fun i j _ _ _ _ _ hc q => pow_int_small hc.1 hc.2.1 (by have h1 := hc.2.2.1; have h2 := hc.2.2.2; omega) q
end
theorem w_shl1 {j : Int} : CShl 1 j = (0 ≤ j ∧ j ≤ 1000000) := propext ⟨fun h => ⟨h.1, h.2.1⟩, fun h => ⟨h.1, h.2, Nat.le_trans (bits_le (n := 1) (by decide)) (by decide)⟩⟩
theorem divB {i j : Int} (h : 0 < j) (h2 : j < 2 ^ 64) : CDivB i j := ⟨h, by
  have e : j.natAbs < 2 ^ 64 := by omega
  have e2 : j.natAbs ≠ 0 := by omega
  have := (Nat.log2_lt e2).mpr e
  omega⟩
section
variable {P : Program} {w : World} {K : PySem.W.Frag} {mg : Str → Option Value} {base : Heap}
theorem mkCal {x qual : Str} {st : Stmt} {N ps : List Str} {k : Nat} {sp : Sp} (T : ∃ (f : Addr) (fd : FuncData), Fun K x qual st f fd ∧ mg x = some (.ref f) ∧ Binds K fd ps []) (S : FnScope N ps (defScope st)) (len : ∀ vs H Q E, sp vs H Q E → vs.length = ps.length)
    (hbody : ∀ (f : Addr) (cdv : Value) (A : Around) (outer : List Env) (s : Shared) (H : Hp) (vs : List V) (Q : VK) (E : XK), Room k (A.deeper (envOfC qual (defScope st) s.heap.objs.size f cdv)) → sp vs H Q E →
      ∃ t, PSs (cxOf CX0 P w K mg base N qual (defScope st) f cdv A outer s H E).nox (defBody st) t ∧ t { nx := fun _ H' => Q .non H', rt := Q } (start N vs) H) : Cal P w K mg base (k + 1) x ps sp := by
  obtain ⟨f, fd, F, m, b⟩ := T
  exact ⟨f, fd, F.ok S len fun cdv A outer s H vs Q E hr h => hbody f cdv A outer s H vs Q E hr h, m, F.kp, b⟩
end
def Chg (p : Addr) (H H' : Hp) : Prop := ∀ b o, b ≠ p → H b = some o → H' b = some o
theorem Chg.refl {p : Addr} {H : Hp} : Chg p H H := fun _ _ _ h => h
theorem Chg.trans {p : Addr} {H H1 H2 : Hp} (a : Chg p H H1) (b : Chg p H1 H2) : Chg p H H2 := fun c o n h => b c o n (a c o n h)
theorem Same.chg {p : Addr} {H H' : Hp} (h : Same H H') : Chg p H H' := fun b o _ q => h b o q
theorem Chg.upd {p : Addr} {H : Hp} (o : HO) : Chg p H (upd H p o) := fun b u n q => by rw [upd_ne n]; exact q
theorem same_new {H : Hp} {p : Addr} (h : H p = none) (o : HO) : Same H (upd H p o) := fun b u q => by rw [upd_ne (ne_of_none q h)]; exact q
def Scr (K : PySem.W.Frag) (H : Hp) (a : Addr) (ns : List Int) : Prop :=
  (∃ o, H a = some (.frz o (.lst (ns.map V.int)))) ∨ (∃ (o : Obj) (its : Array Value) (n : Nat), K.lookup a = some o ∧ o.cls = .type "list" ∧ o.dict = none ∧ o.data = .seq its n ∧ its.size ≤ sizeLine ∧ Vals (ns.map V.int) its.toList)
section
variable {K : PySem.W.Frag} {H H' : Hp} {a p : Addr} {ns : List Int}
theorem Scr.sq (h : Scr K H a ns) : SqL K H a (ns.map V.int) := by
  rcases h with h | h
  · exact .inl (.inr h)
  · exact .inr h
theorem scr_of (hO : Only H) (hS : SqL K H a (ns.map V.int)) : Scr K H a ns := by
  rcases hS with (h | h) | h
  · rcases hO a with z | ⟨o, xs, z⟩
    · rw [z] at h; cases h
    · rw [z] at h; cases h
  · exact .inl h
  · exact .inr h
theorem Scr.same (h : Scr K H a ns) (s : Same H H') : Scr K H' a ns := by
  rcases h with ⟨o, h⟩ | h
  · exact .inl ⟨o, s _ _ h⟩
  · exact .inr h
theorem Scr.chg {xs : List V} (h : Scr K H a ns) (hp : H p = some (.lst xs)) (s : Chg p H H') : Scr K H' a ns := by
  rcases h with ⟨o, h⟩ | h
  · exact .inl ⟨o, s _ _ (ne_of h hp (by intro z; cases z)) h⟩
  · exact .inr h
end
def spLaw (K : PySem.W.Frag) : Sp := fun vs H Q _ => ∃ (a : Addr) (ns : List Int), vs = [.ref a] ∧ Scr K H a ns ∧ ns.length ≤ 63 ∧ ∀ H', Q (.bl true) H'
theorem atI_int {ns : List Int} {i : Int} (h0 : 0 ≤ i) (h1 : i < (ns.length : Int)) : ∃ v : Int, atI (ns.map V.int) i = some (.int v) ∧ ns[i.toNat]? = some v := by
  have hk : i.toNat < ns.length := by omega
  have e : i = ((i.toNat : Nat) : Int) := by omega
  have q : atI (ns.map V.int) ((i.toNat : Nat) : Int) = some (.int ns[i.toNat]) := atI_nat (by rw [List.getElem?_map, List.getElem?_eq_getElem hk] <;> rfl)
  rw [← e] at q
  exact ⟨ns[i.toNat], q, List.getElem?_eq_getElem hk⟩
def lim : Nat → Int
  | 0 => 11
  | n + 1 => 1000000 * (lim n - 1)
def rIxM : R2 := fun x y H Q => ∃ p xs i v, x = .ref p ∧ y = .int i ∧ H p = some (.lst xs) ∧ atI xs i = some v ∧ Q v H
def rIxU : R2 := fun x y H Q => ∃ p xs i v, x = .ref p ∧ y = .int i ∧ H p = some (.tup xs) ∧ atI xs i = some v ∧ Q v H
section
variable {X : Cx}
theorem IxR.mono {r r' : R2} (h : IxR X r) (m : ∀ x y H Q, r' x y H Q → r x y H Q) : IxR X r' := fun va sl pins s σ H x y v u Q I rx ry q hs => h va sl pins s σ H x y v u Q I rx ry (m _ _ _ _ q) hs
theorem ix_M : IxR X rIxM := ix_list.mono fun x y H Q ⟨p, xs, i, v, e1, e2, h, a, q⟩ => ⟨p, xs, i, v, e1, e2, SqL.of h, a, q⟩
theorem ix_U : IxR X rIxU := ix_tup.mono fun x y H Q ⟨p, xs, i, v, e1, e2, h, a, q⟩ => ⟨p, xs, i, v, e1, e2, SqT.of h, a, q⟩
theorem CallR.mono {f : Value} {r r' : List V → Hp → VK → Prop} (h : CallR X f r) (m : ∀ xs H Q, r' xs H Q → r xs H Q) : CallR X f r' := fun pins s σ H xs us Q I rx q => h pins s σ H xs us Q I rx (m _ _ _ q)
theorem call_lenM : CallR X (.builtin "len") (fun xs H Q => ∃ p ys, xs = [.ref p] ∧ H p = some (.lst ys) ∧ Q (.int ys.length) H) := call_len_seq.mono fun xs H Q ⟨p, ys, e, h, q⟩ => ⟨p, ys, e, .inl (SqL.of h), q⟩
theorem call_lenS : CallR X (.builtin "len") (fun xs H Q => ∃ p ys, xs = [.ref p] ∧ SqL X.K H p ys ∧ Q (.int ys.length) H) := call_len_seq.mono fun xs H Q ⟨p, ys, e, h, q⟩ => ⟨p, ys, e, .inl h, q⟩
end
section
variable {H : Hp} {Q : VK}
theorem w_ixM {p : Addr} {i : Int} : rIxM (.ref p) (.int i) H Q = ∃ xs, H p = some (.lst xs) ∧ ∃ v, atI xs i = some v ∧ Q v H :=
  propext ⟨fun ⟨p', xs, i', v, e1, e2, h, a, q⟩ => by cases e1; cases e2; exact ⟨xs, h, v, a, q⟩, fun ⟨xs, h, v, a, q⟩ => ⟨p, xs, i, v, rfl, rfl, h, a, q⟩⟩
theorem w_ixU {p : Addr} {i : Int} : rIxU (.ref p) (.int i) H Q = ∃ xs, H p = some (.tup xs) ∧ ∃ v, atI xs i = some v ∧ Q v H :=
  propext ⟨fun ⟨p', xs, i', v, e1, e2, h, a, q⟩ => by cases e1; cases e2; exact ⟨xs, h, v, a, q⟩, fun ⟨xs, h, v, a, q⟩ => ⟨p, xs, i, v, rfl, rfl, h, a, q⟩⟩
theorem w_ixL {K : PySem.W.Frag} {p : Addr} {i : Int} : rIxL K (.ref p) (.int i) H Q = ∃ xs, SqL K H p xs ∧ ∃ v, atI xs i = some v ∧ Q v H :=
  propext ⟨fun ⟨p', xs, i', v, e1, e2, h, a, q⟩ => by cases e1; cases e2; exact ⟨xs, h, v, a, q⟩, fun ⟨xs, h, v, a, q⟩ => ⟨p, xs, i, v, rfl, rfl, h, a, q⟩⟩
theorem w_setL {p : Addr} {k : Int} {v : V} {R : Hp → Prop} : rSetL (.ref p) (.int k) v H R = ∃ xs, H p = some (.lst xs) ∧ ∃ j, ixN xs.length k = some j ∧ R (upd H p (.lst (xs.set j v))) :=
  propext ⟨fun ⟨p', xs, k', j, e1, e2, h, a, q⟩ => by cases e1; cases e2; exact ⟨xs, h, j, a, q⟩, fun ⟨xs, h, j, a, q⟩ => ⟨p, xs, k, j, rfl, rfl, h, a, q⟩⟩
end
theorem at_0 {α : Type} {a : α} {l : List α} : atI (a :: l) 0 = some a := atI_nat (j := 0) rfl
theorem at_1 {α : Type} {a b : α} {l : List α} : atI (a :: b :: l) 1 = some b := atI_nat (j := 1) rfl
theorem at_2 {α : Type} {a b c : α} {l : List α} : atI (a :: b :: c :: l) 2 = some c := atI_nat (j := 2) rfl
theorem at_3 {α : Type} {a b c d : α} {l : List α} : atI (a :: b :: c :: d :: l) 3 = some d := atI_nat (j := 3) rfl
theorem ixN_0 {n : Nat} : ixN (n + 1) 0 = some 0 := by unfold ixN; rw [if_pos (Int.le_refl 0), if_pos (by omega)]; rfl
theorem ixN_1 {n : Nat} : ixN (n + 1 + 1) 1 = some 1 := by unfold ixN; rw [if_pos (by decide), if_pos (by omega)]; rfl
theorem ixN_2 {n : Nat} : ixN (n + 1 + 1 + 1) 2 = some 2 := by unfold ixN; rw [if_pos (by decide), if_pos (by omega)]; rfl
section
variable {CX : CXT} {P : Program} {w : World} {K : PySem.W.Frag} {mg : Str → Option Value} {base : Heap} {N : List Str} {qual : Str} {scope : Scope} {f : Addr} {cd : Value} {A : Around} {outer : List Env} {s : Shared} {H : Hp} {E : XK}
theorem w_cxK : (cxOf CX P w K mg base N qual scope f cd A outer s H E).K = K := rfl
end
theorem le_size {n : Nat} (h : n ≤ 1000) : n ≤ sizeLine := Nat.le_of_lt (small1000 h)
theorem sl_1 : (0 + 1 ≤ sizeLine) = True := eq_true (le_size (by decide))
theorem sl_2 : (0 + 1 + 1 ≤ sizeLine) = True := eq_true (le_size (by decide))
theorem sl_3 : (0 + 1 + 1 + 1 ≤ sizeLine) = True := eq_true (le_size (by decide))
theorem sl_4 : (0 + 1 + 1 + 1 + 1 ≤ sizeLine) = True := eq_true (le_size (by decide))
theorem sl_5 : (0 + 1 + 1 + 1 + 1 + 1 ≤ sizeLine) = True := eq_true (le_size (by decide))
theorem sl_6 : (0 + 1 + 1 + 1 + 1 + 1 + 1 ≤ sizeLine) = True := eq_true (le_size (by decide))
theorem sl_7 : (0 + 1 + 1 + 1 + 1 + 1 + 1 + 1 ≤ sizeLine) = True := eq_true (le_size (by decide))
theorem sl_8 : (0 + 1 + 1 + 1 + 1 + 1 + 1 + 1 + 1 ≤ sizeLine) = True := eq_true (le_size (by decide))
theorem sl_0 : (0 ≤ sizeLine) = True := eq_true (le_size (by decide))
theorem divq {g m : Int} (hg : 0 ≤ g) (hm : 0 < m) : 0 ≤ g / m := Int.ediv_nonneg hg (Int.le_of_lt hm)
theorem modq {g m : Int} (hm : 0 < m) : 0 ≤ g % m ∧ g % m < m := ⟨Int.emod_nonneg _ (by omega), Int.emod_lt_of_pos _ hm⟩
def ForR (lo : Int) (n : Nat) (g : TG) (tb : TS) (D : Ends) (σ : St) (H : Hp) : Prop := ∃ W : Nat → Nat → St → Hp → Prop, (∃ m, W 0 m σ H) ∧ ∀ i m σ H, W i m σ H →
  ((Itr lo n).stop i H ∧ D.nx σ H) ∨ ((Itr lo n).go i H ∧ ∃ N : St → Hp → Prop, (∀ σ' H', N σ' H' → ∃ m', m' < m ∧ W (i + 1) m' σ' H') ∧ ∀ x H', (Itr lo n).yld i H x H' → g x σ H' fun σ2 H2 => tb { D with nx := N, ct := N, bk := D.nx } σ2 H2)
def ForL (K : PySem.W.Frag) (a : Addr) (g : TG) (tb : TS) (D : Ends) (σ : St) (H : Hp) : Prop := ∃ W : Nat → Nat → St → Hp → Prop, (∃ m, W 0 m σ H) ∧ ∀ i m σ H, W i m σ H →
  ((Itl K a).stop i H ∧ D.nx σ H) ∨ ((Itl K a).go i H ∧ ∃ N : St → Hp → Prop, (∀ σ' H', N σ' H' → ∃ m', m' < m ∧ W (i + 1) m' σ' H') ∧ ∀ x H', (Itl K a).yld i H x H' → g x σ H' fun σ2 H2 => tb { D with nx := N, ct := N, bk := D.nx } σ2 H2)
def ForT (K : PySem.W.Frag) (a : Addr) (g : TG) (tb : TS) (D : Ends) (σ : St) (H : Hp) : Prop := ∃ W : Nat → Nat → St → Hp → Prop, (∃ m, W 0 m σ H) ∧ ∀ i m σ H, W i m σ H →
  ((Itt K a).stop i H ∧ D.nx σ H) ∨ ((Itt K a).go i H ∧ ∃ N : St → Hp → Prop, (∀ σ' H', N σ' H' → ∃ m', m' < m ∧ W (i + 1) m' σ' H') ∧ ∀ x H', (Itt K a).yld i H x H' → g x σ H' fun σ2 H2 => tb { D with nx := N, ct := N, bk := D.nx } σ2 H2)
section
variable {σ : St} {H : Hp} {D : Ends} {g : TG} {tb : TS} {K : PySem.W.Frag} {a : Addr}
theorem w_for1 {ta : TA} : tFor (iRng1 ta) g tb D σ H = (ta σ H fun vs H1 => ∃ j : Int, vs = [.int j] ∧ -(2 ^ 62) ≤ j ∧ j < 2 ^ 62 ∧ ForR 0 j.toNat g tb D σ H1) := rfl
theorem w_forL {tl : TE} : tFor (iList K tl) g tb D σ H = (tl σ H fun x H1 => ∃ a, x = .ref a ∧ (∃ xs, SqL K H1 a xs) ∧ ForL K a g tb D σ H1) := rfl
theorem w_forT {tl : TE} : tFor (iTup K tl) g tb D σ H = (tl σ H fun x H1 => ∃ a, x = .ref a ∧ (∃ xs, SqT K H1 a xs) ∧ ForT K a g tb D σ H1) := rfl
theorem forR {lo : Int} {n : Nat} (Pv : Nat → St → Hp → Prop) (h0 : Pv 0 σ H)
    (hs : ∀ i σ H (N : St → Hp → Prop), i < n → Pv i σ H → (∀ σ' H', Pv (i + 1) σ' H' → N σ' H') → g (.int (lo + i)) σ H fun σ2 H2 => tb { D with nx := N, ct := N, bk := D.nx } σ2 H2) (hd : ∀ σ H, Pv n σ H → D.nx σ H) : ForR lo n g tb D σ H :=
  for_range Pv h0 (fun i σ H h p => hs i σ H _ h p fun _ _ q => q) hd
theorem forL {xs : List V} (Pv : Nat → St → Hp → Prop) (h0 : Pv 0 σ H) (hl : ∀ i σ H, i ≤ xs.length → Pv i σ H → SqL K H a xs)
    (hs : ∀ i x σ H (N : St → Hp → Prop), xs[i]? = some x → Pv i σ H → (∀ σ' H', Pv (i + 1) σ' H' → N σ' H') → g x σ H fun σ2 H2 => tb { D with nx := N, ct := N, bk := D.nx } σ2 H2) (hd : ∀ σ H, Pv xs.length σ H → D.nx σ H) : ForL K a g tb D σ H := for_list Pv h0 hl (fun i x σ H h p => hs i x σ H _ h p fun _ _ q => q) hd
end
theorem shl_ok {n s : Int} {k : Nat} (h0 : 0 ≤ s) (h1 : s ≤ 1000000) (h : n.natAbs < 2 ^ k) (hk : k ≤ 1000000) : CShl n s := ⟨h0, h1, Nat.le_trans (bits_le h) hk⟩
theorem abs_div {n : Int} {k : Nat} {d : Int} (hd : 0 < d) (h : n.natAbs < 2 ^ k) : (n / d).natAbs < 2 ^ k := by
  refine Nat.lt_of_le_of_lt ?_ h
  have e1 : n / d ≤ (n.natAbs : Int) := by
    rcases Int.lt_or_le n 0 with z | z
    · have := Int.ediv_neg_of_neg_of_pos z hd
      omega
    · have := Int.ediv_le_self d z
      omega
  have e2 : -(n.natAbs : Int) ≤ n / d := by
    rcases Int.lt_or_le n 0 with z | z
    · have h1 : n ≤ n / d := by
        refine Int.le_ediv_of_mul_le hd ?_
        have : n * d ≤ n * 1 := Int.mul_le_mul_of_nonpos_left (Int.le_of_lt z) hd
        omega
      omega
    · have := Int.ediv_nonneg z (Int.le_of_lt hd)
      omega
  omega
theorem mid_of {t u : TS} {D : Ends} {σ : St} {H : Hp} (M : St → Hp → Prop) (h1 : ∀ N : St → Hp → Prop, (∀ σ H, M σ H → N σ H) → t { D with nx := N } σ H) (h2 : ∀ σ H, M σ H → u D σ H) : tMid t u D σ H := ⟨M, h1 M fun _ _ q => q, h2⟩
section
variable {K : PySem.W.Frag} {H : Hp} {Q : VK}
theorem isI_mk {x : V} {T : String} {t : Value} {b : Bool} (ty : TyOf K H x t) (u : ∀ t', TyOf K H x t' → t' = t) (k : PySem.W.kitOne K t (.type T) = some b) : rIsI K [x, .ty T] H Q = Q (.bl b) H :=
  propext ⟨fun ⟨x', T', t', b', e, ty', k', q⟩ => by
    cases e
    rw [u _ ty', k] at k'
    cases k'
    exact q, fun q => ⟨x, T, t, b, rfl, ty, k, q⟩⟩
theorem kit_non_bool : PySem.W.kitOne K (.type "NoneType") (.type "bool") = some false := by first | rfl | decide +kernel
theorem kit_str_bool : PySem.W.kitOne K (.type "str") (.type "bool") = some false := by first | rfl | decide +kernel
theorem w_isI_ii {i : Int} : rIsI K [.int i, .ty "int"] H Q = Q (.bl true) H := isI_mk (.int i) (fun _ h => by cases h; rfl) (kit_same _)
theorem w_isI_ib {i : Int} : rIsI K [.int i, .ty "bool"] H Q = Q (.bl false) H := isI_mk (.int i) (fun _ h => by cases h; rfl) kit_int_bool
theorem w_isI_bi {i : Bool} : rIsI K [.bl i, .ty "int"] H Q = Q (.bl true) H := isI_mk (.bl i) (fun _ h => by cases h; rfl) kit_bool_int
theorem w_isI_bb {i : Bool} : rIsI K [.bl i, .ty "bool"] H Q = Q (.bl true) H := isI_mk (.bl i) (fun _ h => by cases h; rfl) (kit_same _)
theorem w_isI_ni : rIsI K [.non, .ty "int"] H Q = Q (.bl false) H := isI_mk .non (fun _ h => by cases h; rfl) kit_non_int
theorem w_isI_nb : rIsI K [.non, .ty "bool"] H Q = Q (.bl false) H := isI_mk .non (fun _ h => by cases h; rfl) kit_non_bool
theorem w_isI_si {x : Str} : rIsI K [.str x, .ty "int"] H Q = Q (.bl false) H := isI_mk (.str x) (fun _ h => by cases h; rfl) kit_str_int
theorem w_isI_sb {x : Str} : rIsI K [.str x, .ty "bool"] H Q = Q (.bl false) H := isI_mk (.str x) (fun _ h => by cases h; rfl) kit_str_bool
end
theorem pow_pos2 (k : Nat) : (0 : Int) < 2 ^ k := Int.pow_pos (by decide)
theorem ediv_iff {n d : Int} : n / d * d = n ↔ d ∣ n := ⟨fun h => ⟨n / d, by rw [Int.mul_comm]; exact h.symm⟩, fun h => Int.ediv_mul_cancel h⟩
end L2
set_option Elab.async false
set_option linter.all false
set_option maxRecDepth 100000
set_option maxHeartbeats 1000000
namespace L2
open PySem PySem.Spec PyProof.Rows
def closOf (scope : Scope) (env : Env) : List (Str × Addr) := (scope.names.filterMap fun x => if x.2 == .free then (env.cells.lookup x.1).map fun c => (x.1, c) else none).reverse
theorem closureFor_ok {scope : Scope} {env : Env} (h : ∀ x ∈ scope.names, x.2 = .free → ∃ c, env.cells.lookup x.1 = some c) : closureFor scope env = pure (closOf scope env) := by
  unfold closureFor closOf
  have all : ∀ (l : List (Str × NameKind)) (acc : List (Str × Addr)), (∀ x ∈ l, x.2 = .free → ∃ c, env.cells.lookup x.1 = some c) →
      (forIn l acc fun x r => (match x with | (name, kind) => if (kind == .free) = true then do let a ← cellOf env name; pure (ForInStep.yield ((name, a) :: r)) else pure (ForInStep.yield r) : Sem (ForInStep (List (Str × Addr))))) =
        pure ((l.filterMap fun x => if x.2 == .free then (env.cells.lookup x.1).map fun c => (x.1, c) else none).reverse ++ acc) := by
    intro l
    induction l with
    | nil => intro acc _; simp
    | cons x r ih =>
      intro acc hx
      obtain ⟨n, k⟩ := x
      have hr : ∀ y ∈ r, y.2 = .free → ∃ c, env.cells.lookup y.1 = some c := fun y hy => hx y (List.mem_cons_of_mem _ hy)
      by_cases hk : k = .free
      · subst hk
        obtain ⟨c, hc⟩ := hx (n, .free) List.mem_cons_self rfl
        have e1 : cellOf env n = pure c := by unfold cellOf; rw [show env.cells.lookup n = some c from hc]
        simp only [List.forIn_cons, beq_self_eq_true, if_true, e1, pure_bind, List.filterMap_cons]
        rw [ih _ hr]
        simp [show env.cells.lookup n = some c from hc]
      · have hb : (k == NameKind.free) = false := by simpa using hk
        simp only [List.forIn_cons, hb, Bool.false_eq_true, if_false, pure_bind, List.filterMap_cons]
        rw [ih _ hr]
  have := all scope.names [] h
  rw [List.append_nil] at this
  simp only [bind_pure]
  first | exact this | (rw [this]) | (simpa using this)
theorem mem_clos {scope : Scope} {env : Env} {x : Str} {c : Addr} (h : (closOf scope env).lookup x = some c) : env.cells.lookup x = some c := by
  have m := PySem.mem_of_lookup h
  unfold closOf at m
  rw [List.mem_reverse, List.mem_filterMap] at m
  obtain ⟨y, hy, e⟩ := m
  split at e
  · cases q : env.cells.lookup y.1 with
    | none => rw [q] at e; cases e
    | some d =>
      rw [q] at e
      simp only [Option.map_some, Option.some.injEq, Prod.mk.injEq] at e
      rw [← e.1, q, e.2]
  · cases e
theorem lookup_mem {α : Type} : ∀ {l : List (Str × α)} {x : Str} {c : α}, (x, c) ∈ l → ∃ d, l.lookup x = some d
  | (k, v) :: r, x, c, h => by
    rw [List.lookup_cons]
    cases hb : x == k with
    | true => exact ⟨v, rfl⟩
    | false =>
      rcases List.mem_cons.mp h with e | e
      · injection e with e1 e2
        subst e1
        simp at hb
      · exact lookup_mem e
theorem clos_has {scope : Scope} {env : Env} {x : Str} {c : Addr} (h : (x, NameKind.free) ∈ scope.names) (hc : env.cells.lookup x = some c) : (closOf scope env).lookup x = some c := by
  have m : (x, c) ∈ closOf scope env := by
    unfold closOf
    rw [List.mem_reverse, List.mem_filterMap]
    exact ⟨(x, .free), h, by simp [hc]⟩
  obtain ⟨d, hd⟩ := lookup_mem m
  have := mem_clos hd
  rw [hc] at this
  rw [hd, ← this]
theorem relabel_lookup {env : Env} : ∀ {names : List (Str × NameKind)} {x : Str} {k : NameKind},
    (names.map fun (n, k) => if (k == NameKind.free && env.scope.kind == .function && env.kindOf n == some .cell) then (n, NameKind.cell) else (n, k)).lookup x = some k →
    ∃ k0, names.lookup x = some k0 ∧ (k0 = k ∨ (k0 = .free ∧ k = .cell))
  | [], _, _, h => by simp at h
  | (n, k) :: r, x, k', h => by
    simp only [List.map_cons] at h
    by_cases hc : (k == NameKind.free && env.scope.kind == .function && env.kindOf n == some .cell) = true
    · rw [if_pos hc, List.lookup_cons] at h
      rw [List.lookup_cons]
      cases hb : x == n with
      | true =>
        rw [hb] at h
        simp only [Option.some.injEq] at h
        refine ⟨k, rfl, .inr ⟨?_, h.symm⟩⟩
        simp only [Bool.and_eq_true, beq_iff_eq] at hc
        exact hc.1.1
      | false =>
        rw [hb] at h
        exact relabel_lookup h
    · rw [if_neg hc, List.lookup_cons] at h
      rw [List.lookup_cons]
      cases hb : x == n with
      | true =>
        rw [hb] at h
        simp only [Option.some.injEq] at h
        exact ⟨k, rfl, .inl h⟩
      | false =>
        rw [hb] at h
        exact relabel_lookup h
theorem codeAny_compLoop_gen {prog : Program} {w : World} {A : Around} {R : Result → Shared → Prop} {s : Shared} {elt target iter : Expr} {ifs : List Expr} {scope : Scope} {pos : Pos} {it acc : Value} {env : Env} (I : Nat → Shared → Prop)
    (turn : ∀ n s, I n s → wpAny (model prog w) A (pyNext it) (fun r s₁ => match r with
      | none => R (.ok .next) s₁
      | some v => wpAny (model prog w) A (letOwnedTupleGo target it v) (fun _ s₁' => wpAny (model prog w) A (assign target env v) (fun _ s₂ =>
          wpAny (model prog w) A (forIn ifs true fun c r => if r = true then do let ok ← isTrue c env (eval c env); pure (ForInStep.yield ok) else pure (ForInStep.yield r)) (fun ok s₃ =>
            if ok = true then wpAny (model prog w) A (eval elt env) (fun x s₄ =>
              wpAny (model prog w) A (call (.builtin "list.append") [acc, x]) (fun _ s₅ => ∃ m, m < n ∧ I m s₅) (fun _ _ => False) s₄) (fun _ _ => False) s₃
            else ∃ m, m < n ∧ I m s₃) (fun _ _ => False) s₂) (fun _ _ => False) s₁') (fun _ _ => False) s₁) (fun _ _ => False) s)
    (n : Nat) (h : I n s) :
    codeAny (model prog w) A (.compLoop (.ListComp elt [⟨target, iter, ifs, 0⟩] scope pos) 0 it acc env) R s := by
  refine codeAny_loop rfl I (fun n s hI => ?_) n h
  show wpAny _ A ((compTurn (.ListComp elt [⟨target, iter, ifs, 0⟩] scope pos) 0 it acc env).onRaise (fun x => do noteFrame x env; theTreesLotGoes x)) _ _ s
  refine wpAny_noted ?_
  rw [compTurn_list]
  refine wpAny_bind (wpAny_standAt (wpAny_bind (wpAny_mono (turn n s hI) (fun r s₁ h₁ => ?_) fun _ _ h' => h'.elim)))
  cases r with
  | none => exact wpAny_pure h₁
  | some v =>
    refine wpAny_bind (wpAny_mono h₁ (fun _ s₁' h₁' => ?_) fun _ _ h' => h'.elim)
    refine wpAny_bind (wpAny_mono h₁' (fun _ s₂ h₂ => wpAny_bind (wpAny_mono h₂ (fun ok s₃ h₃ => ?_) fun _ _ h' => h'.elim)) fun _ _ h' => h'.elim)
    cases ok with
    | false => exact wpAny_pure ⟨rfl, h₃⟩
    | true =>
      exact wpAny_bind (wpAny_bind (wpAny_mono h₃ (fun x s₄ h₄ => wpAny_bind (wpAny_mono h₄ (fun _ s₅ h₅ => wpAny_pure (wpAny_pure ⟨rfl, h₅⟩)) fun _ _ h' => h'.elim)) fun _ _ h' => h'.elim))
def PN (X : Cx) (ifs : List Expr) (t : TT) : Prop :=
  ∀ (pins : List (Addr × Obj)) (s : Shared) (σ : St) (H : Hp) (Q : Bool → Hp → Prop), Inv X pins σ H s → t σ H Q →
    wpAny (model X.prog X.w) X.A (forIn ifs true fun c r => if r = true then do let ok ← isTrue c X.env (eval c X.env); pure (ForInStep.yield ok) else pure (ForInStep.yield r)) (TP X pins σ Q) X.xe s
def tYes : TT := fun _ H Q => Q true H
section
variable {X : Cx}
theorem pn_nil : PN X [] tYes := fun _ _ σ H Q I h => wpAny_pure ⟨H, I, h⟩
theorem pn_one {c : Expr} {t : TT} (h : PT X c t) : PN X [c] t := by
  intro pins s σ H Q I q
  refine PySem.wpAny_tests_one (h pins s σ H Q I q)
end
def compCx (X : Cx) (N : List Str) (scope : Scope) (C : Addr) (s : Shared) (H : Hp) (fp : List Addr) : Cx :=
  { X with N := N, s₀ := s, H₀ := H, env := compEnvC scope (closOf scope X.env) C X.env, outer := X.stack, stack := X.stack, ex := fp, fn := fun _ => false, pn := [], xe := fun _ _ => False }
structure CompBody (X : Cx) (tg : Expr) (ifs : List Expr) (elt : Expr) (g : TG) (tt : TT) (te : TE) : Prop where
  tg : PG X tg g
  tt : PN X ifs tt
  te : PE X elt te
def scB (sc xsc : Scope) : Bool := (sc.kind == .function) && sc.names.all fun x => (x.2 != .cell) && (x.2 != .local || sc.names.lookup x.1 == some .local) && (x.2 != .free || (xsc.names.lookup x.1 == some .cell) || (xsc.names.lookup x.1 == some .free))
def capB (cs : List Nat) (ns XN : List Str) (sc xsc : Scope) : Bool := (cs.zip ns).all fun p => (XN[p.1]? == some p.2) && (sc.names.lookup p.2 == some .free) && (xsc.names.lookup p.2 != some .local)
def capSt (nt : Nat) (cs : List Nat) (σ : St) : St := List.replicate nt none ++ cs.map fun c => (σ[c]?).join
def tComp (wi : TI) (nt : Nat) (cs : List Nat) (g : TG) (tt : TT) (te : TE) : TE := fun σ H Q => wi σ H fun J H1 => ∀ acc, H1 acc = none →
  ∃ W : Nat → Nat → List V → St → Hp → Prop, (∃ m, W 0 m [] (capSt nt cs σ) (upd H1 acc (.lst []))) ∧ ∀ i m ys σ' H', W i m ys σ' H' → H' acc = some (.lst ys) ∧
    ((J.stop i H' ∧ Q (.ref acc) H') ∨ (J.go i H' ∧ ys.length < sizeLine ∧ ∃ N : List V → St → Hp → Prop, (∀ zs σ2 H2, N zs σ2 H2 → ∃ m', m' < m ∧ W (i + 1) m' zs σ2 H2) ∧
      ∀ x H2, J.yld i H' x H2 → g x σ' H2 fun σ3 H3 => tt σ3 H3 fun b H4 => if b = true then te σ3 H4 fun y H5 => H5 acc = some (.lst ys) ∧ N (ys ++ [y]) σ3 (upd H5 acc (.lst (ys ++ [y]))) else N ys σ3 H4))
section
variable {X : Cx}
theorem compCx_inv {pins : List (Addr × Obj)} {σ : St} {H : Hp} {s : Shared} {N : List Str} {scope : Scope} {nt : Nat} {cs : List Nat} {fp : List Addr} {h1 : Heap} {tk : Nat} (I : Inv X pins σ H s)
    (hsc : scB scope X.env.scope = true) (hcap : capB cs (N.drop nt) X.N scope X.env.scope = true) (hlen : N.length = nt + cs.length)
    (hf : ∀ b ∈ fp, FpOk X pins H b) (hfl : ∀ b ∈ fp, b < s.heap.objs.size) (hn : h1.Ns s.heap.objs.size fun _ => none) (hk : ∀ b o, s.heap.get? b = some o → h1.get? b = some o) :
    Inv (compCx X N scope s.heap.objs.size s H fp) [] (capSt nt cs σ) H { s with heap := h1, toks := tk } := by
  unfold scB at hsc
  rw [Bool.and_eq_true] at hsc
  obtain ⟨hkd, hall⟩ := hsc
  have hkd : scope.kind = .function := by simpa using hkd
  rw [List.all_eq_true] at hall
  have nocell : ∀ x ∈ scope.names, x.2 ≠ .cell := fun x hx e => by have := hall x hx; rw [e] at this; simp at this
  have free2 : ∀ x, (x, NameKind.free) ∈ scope.names → X.env.kindOf x = some .cell ∨ X.env.kindOf x = some .free := fun x hx => by
    have := hall _ hx
    simp only [bne_self_eq_false, Bool.false_or, Bool.and_eq_true, Bool.or_eq_true, beq_iff_eq] at this
    exact this.2
  have kinds : ∀ x, ((compCx X N scope s.heap.objs.size s H fp).env.kindOf x = some .cell ∨ (compCx X N scope s.heap.objs.size s H fp).env.kindOf x = some .free) → (x, NameKind.free) ∈ scope.names := fun x hx => by
    have q : ∃ k, (relabel scope X.env).names.lookup x = some k ∧ (k = .cell ∨ k = .free) := by
      rcases hx with e | e
      · exact ⟨_, e, .inl rfl⟩
      · exact ⟨_, e, .inr rfl⟩
    obtain ⟨k, e, hk'⟩ := q
    obtain ⟨k0, e0, r⟩ := relabel_lookup e
    have m := PySem.mem_of_lookup e0
    rcases r with r | ⟨r, _⟩
    · subst r
      rcases hk' with z | z
      · exact absurd z (nocell _ m)
      · rw [z] at m; exact m
    · rw [r] at m; exact m
  have cellOf : ∀ x c, (closOf scope X.env).lookup x = some c → X.env.cells.lookup x = some c := fun x c e => mem_clos e
  have clt : ∀ x c, X.env.cells.lookup x = some c → c < s.heap.objs.size := fun x c e => by
    obtain ⟨v, q⟩ := I.cell x c e
    exact q.lt
  refine ⟨⟨I.ok.mod, ?_, I.ok.glob, I.ok.blt, Nat.le_refl _, ?_, ?_, ?_, I.ok.hd, I.ok.frames, .inl rfl, ?_, ?_, ?_, ?_, ?_, ?_, ?_⟩, rfl, I.bare, Un.kept hk, ⟨_, hn, ?_⟩, ?_, ?_, ?_, ?_, I.hok.kept hk, ?_⟩
  · show (relabel scope X.env).kind = _
    exact hkd
  · intro x y c e1 e2
    exact I.ok.inj x y c (cellOf x c e1) (cellOf y c e2)
  · intro x hx
    have m := kinds x hx
    obtain ⟨c, hc⟩ := I.ok.has x (free2 x m)
    exact ⟨c, clos_has m hc⟩
  · intro x c z
    cases z
  · intro b hb
    obtain ⟨f0, f1, f2, f3, f4, f5⟩ := hf b hb
    exact ⟨Nat.ne_of_lt (hfl b hb), fun x c e => f4 x c (cellOf x c e)⟩
  · intro b o e
    exact I.bs b o e
  · exact Nat.le_trans I.ok.bsz I.sz
  · intro b o e hb
    obtain ⟨f0, f1, f2, f3, f4, f5⟩ := hf b hb
    rcases f3 with z | z
    · exact I.ok.noex b o e z
    · exact absurd (Nat.lt_of_lt_of_le (Heap.lt_size (I.ok.bs b o e).1) z) (Nat.lt_irrefl _)
  · intro b hb hs
    obtain ⟨f0, f1, f2, f3, f4, f5⟩ := hf b hb
    rcases List.mem_cons.mp (I.stkSub b hs) with z | z
    · exact f1 z
    · exact f2 z
  · exact I.stack
  · exact I.stkFree
  · intro i x v e1 e2 _
    have hi : nt ≤ i := by
      refine Nat.le_of_not_lt fun z => ?_
      unfold capSt at e2
      rw [List.getElem?_append_left (by simpa using z), List.getElem?_replicate, if_pos z] at e2
      cases e2
    unfold capSt at e2
    rw [List.getElem?_append_right (by simpa using hi), List.length_replicate, List.getElem?_map] at e2
    cases q : cs[i - nt]? with
    | none => rw [q] at e2; cases e2
    | some c =>
      rw [q] at e2
      simp only [Option.map_some, Option.some.injEq] at e2
      have e3 : σ[c]? = some (some v) := by
        cases z : σ[c]? with
        | none => rw [z] at e2; cases e2
        | some o => rw [z] at e2; exact congrArg some e2
      unfold capB at hcap
      rw [List.all_eq_true] at hcap
      have e4 : (N.drop nt)[i - nt]? = some x := by
        rw [List.getElem?_drop, show nt + (i - nt) = i by omega]
        exact e1
      have m : (c, x) ∈ cs.zip (N.drop nt) := by
        have : (cs.zip (N.drop nt))[i - nt]? = some (c, x) := by rw [List.getElem?_zip_eq_some]; exact ⟨q, e4⟩
        exact List.mem_of_getElem? this
      have hm := hcap _ m
      simp only [Bool.and_eq_true, beq_iff_eq, bne_iff_ne, ne_eq] at hm
      obtain ⟨⟨h1', h2'⟩, h3'⟩ := hm
      have hlk : scope.names.lookup x = some .free := h2'
      have h2' : (x, NameKind.free) ∈ scope.names := PySem.mem_of_lookup hlk
      obtain ⟨mm, hmm, hl⟩ := I.loc
      have vis : Vis X.env.scope x := .inr (free2 x h2')
      obtain ⟨u, r, l⟩ := hl c x v h1' e3 vis
      rcases l with ⟨z, _⟩ | ⟨z, d, hd, hcell⟩
      · exact absurd z h3'
      · refine ⟨u, r, .inr ⟨?_, d, clos_has h2' hd, ?_⟩⟩
        · -- its kind in the block
          have isf : ∃ k, (relabel scope X.env).names.lookup x = some k := by
            have : ∃ k', (x, k') ∈ (relabel scope X.env).names := by
              unfold relabel
              by_cases cc : (X.env.scope.kind == .function && X.env.kindOf x == some .cell) = true
              · refine ⟨.cell, List.mem_map.mpr ⟨(x, .free), h2', ?_⟩⟩
                simp only [Bool.and_eq_true] at cc
                simp [cc.1, cc.2]
              · refine ⟨.free, List.mem_map.mpr ⟨(x, .free), h2', ?_⟩⟩
                simp only [Bool.and_eq_true] at cc
                have cc' : ¬ ((NameKind.free == NameKind.free && X.env.scope.kind == .function && X.env.kindOf x == some .cell) = true) := by
                  simp only [beq_self_eq_true, Bool.true_and, Bool.and_eq_true]
                  exact cc
                show (if (NameKind.free == NameKind.free && X.env.scope.kind == .function && X.env.kindOf x == some .cell) = true then (x, NameKind.cell) else (x, NameKind.free)) = (x, NameKind.free)
                rw [if_neg cc']
            obtain ⟨k', hk'⟩ := this
            exact lookup_mem hk'
          obtain ⟨k, ek⟩ := isf
          obtain ⟨k0, e0, rr⟩ := relabel_lookup ek
          rcases rr with rr | ⟨_, rr⟩
          · subst rr
            rw [hlk] at e0
            cases e0
            exact .inr ek
          · subst rr
            exact .inl ek
        · obtain ⟨o, ho, hd'⟩ := hcell
          exact ⟨o, hk _ _ ho, hd'⟩
  · intro x c e
    obtain ⟨v, o, ho, hd⟩ := I.cell x c (cellOf x c e)
    exact ⟨v, o, hk _ _ ho, hd⟩
  · exact I.hok.fresh (Nat.le_refl _)
  · intro x c e
    exact I.freeC x c (cellOf x c e)
  · intro p hp
    cases hp
  · show (capSt nt cs σ).length = N.length
    unfold capSt
    rw [List.length_append, List.length_replicate, List.length_map, hlen]
theorem un_same {fs ex : List Addr} {H H' : Hp} {h h1 h' : Heap} {C : Addr} (u : Un fs ex H H' h h1) (hs : Heap.SameBut C h1 h') (hC : h.objs.size ≤ C) : Un fs ex H H' h h' where
  keep := fun b o e n hb hx => (hs.2 b (Nat.ne_of_lt (Nat.lt_of_lt_of_le (Heap.lt_size e) hC))).trans (u.keep b o e n hb hx)
  slot := fun b o e n hb hx => by
    obtain ⟨sl, q⟩ := u.slot b o e n hb hx
    exact ⟨sl, (hs.2 b (Nat.ne_of_lt (Nat.lt_of_lt_of_le (Heap.lt_size e) hC))).trans q⟩
  free := u.free
  there := fun b o e hx => by
    obtain ⟨o', q⟩ := u.there b o e hx
    exact ⟨o', (hs.2 b (Nat.ne_of_lt (Nat.lt_of_lt_of_le (Heap.lt_size e) hC))).trans q⟩
  tups := u.tups
  frzs := u.frzs
  tbls := u.tbls
theorem hok_same {P : Program} {w : World} {H : Hp} {h h' : Heap} {C : Addr} (x : HOk P w H h) (hs : Heap.SameBut C h h') (hC : H C = none) : HOk P w H h' := fun b u e =>
  (x b u e).stay (fun c v hc q => (hs.2 c (fun z => by
    subst z
    rcases hc with z | z
    · subst z; rw [hC] at e; cases e
    · rw [hC] at z; cases z)).trans q) (fun _ q => q) fun _ _ q => q
theorem pe_comp0 {tg iter elt : Expr} {ifs : List Expr} {scope : Scope} {pos : Pos} {wi : TI} {N : List Str} {nt : Nat} {cs : List Nat} {g : TG} {tt : TT} {te : TE} (hc : X.calm = true) (hi : PI X tg iter wi)
    (hb : N.Nodup → ∀ (C : Addr) (s : Shared) (H : Hp) (fp : List Addr), CompBody (compCx X N scope C s H fp) tg ifs elt g tt te)
    (hnd : N.Nodup) (hsc : scB scope X.env.scope = true) (hcap : capB cs (N.drop nt) X.N scope X.env.scope = true) (hlen : N.length = nt + cs.length)
    (hs : ∀ x, foldedSetIterable iter X.env x = pure x) : PE X (.ListComp elt [⟨tg, iter, ifs, 0⟩] scope pos) (tComp wi nt cs g tt te) := by
  intro pins s σ H Q I h
  have hsc' := hsc
  unfold scB at hsc'
  rw [Bool.and_eq_true] at hsc'
  obtain ⟨hkd, hall⟩ := hsc'
  have hkd : scope.kind = .function := by simpa using hkd
  rw [List.all_eq_true] at hall
  have nocell : ∀ x ∈ scope.names, x.2 ≠ .cell := fun x hx e => by have := hall x hx; rw [e] at this; simp at this
  have hnames : ∀ x ∈ scope.names, x.2 = .local → scope.names.lookup x.1 = some .local := fun x hx e => by
    have := hall x hx
    rw [e] at this
    simp only [bne_self_eq_false, Bool.false_or, Bool.and_eq_true, beq_iff_eq] at this
    exact this.1.2
  have hclos : closureFor scope X.env = pure (closOf scope X.env) := closureFor_ok fun x hx e => by
    have := hall x hx
    rw [e] at this
    simp only [bne_self_eq_false, Bool.false_or, Bool.and_eq_true, Bool.or_eq_true, beq_iff_eq] at this
    exact I.ok.has x.1 this.2
  rw [eval_ListComp]
  refine wpAny_comprehension_free (use := none) rfl hs hclos hkd hnames (thn (hi pins s σ H _ I h) fun v s1 h1 => thn h1 fun itv s2 h2 => ?_)
  obtain ⟨it, fp, tn, J, H2, e, I2, T, st2, f2, hR⟩ := h2
  subst e
  refine wpAny_newObj_type (wpAny_newFunctionEnv nocell (by intro y hy; simp at hy) (fun h3 hn3 hs3 => ?_) hkd)
  have fr := I2.fresh
  have I3 : Inv X pins σ (upd H2 s2.heap.objs.size (.lst [])) { s2 with heap := s2.heap.push { cls := .type "list", data := .seq ([] : List Value).toArray }, toks := s2.toks } := I2.lnew .nil (le_size (by decide))
  obtain ⟨W, ⟨m0, w0⟩, turn⟩ := hR _ fr
  generalize hacc : s2.heap.objs.size = acc at *
  generalize hsx : ({ s2 with heap := s2.heap.push { cls := .type "list", data := .seq ([] : List Value).toArray }, toks := s2.toks } : Shared) = sx at *
  have hC : sx.heap.objs.size = acc + 1 := by rw [← hsx, ← hacc]; exact Heap.size_push _ _
  have fpl : ∀ b ∈ fp, b < acc := fun b hb => by
    obtain ⟨o, ho, _⟩ := T.obj _ _ st2 b hb
    rw [← hacc]
    exact Heap.lt_size ho
  have f3 : ∀ b ∈ fp, FpOk X pins (upd H2 acc (.lst [])) b := fun b hb => by
    obtain ⟨f0, f1⟩ := f2 b hb
    exact ⟨by rw [upd_ne (Nat.ne_of_lt (fpl b hb))]; exact f0, f1⟩
  have keep3 : ∀ b o, sx.heap.get? b = some o → h3.get? b = some o := fun b o e => by
    have hne : b ≠ sx.heap.objs.size := Nat.ne_of_lt (Heap.lt_size e)
    exact (hs3.2 b hne).trans (Heap.get?_push_of_some _ e)
  have IC : Inv (compCx X N scope sx.heap.objs.size sx (upd H2 acc (.lst [])) fp) [] (capSt nt cs σ) (upd H2 acc (.lst [])) { sx with heap := h3, toks := sx.toks + ([] : List (Str × Value)).length } :=
    compCx_inv I3 hsc hcap hlen f3 (fun b hb => by rw [hC]; exact Nat.lt_succ_of_lt (fpl b hb)) (by simpa using hn3) keep3
  have hn3' : H2 acc = none := fr
  generalize hXC : compCx X N scope sx.heap.objs.size sx (upd H2 acc (.lst [])) fp = XC at IC
  have ctxP : XC.prog = X.prog := by rw [← hXC]; rfl
  have ctxW : XC.w = X.w := by rw [← hXC]; rfl
  have ctxK : XC.K = X.K := by rw [← hXC]; rfl
  have ctxA : XC.A = X.A := by rw [← hXC]; rfl
  have ctxC : XC.calm = true := by rw [← hXC]; exact hc
  have ctxX : XC.xe = fun _ _ => False := by rw [← hXC]; rfl
  have ctxE : XC.env = compEnvC scope (closOf scope X.env) sx.heap.objs.size X.env := by rw [← hXC]; rfl
  have body : CompBody XC tg ifs elt g tt te := by rw [← hXC]; exact hb hnd _ _ _ _
  have st3 : tn 0 h3 := T.keep _ _ _ st2 fun b hb o e => keep3 b o (by rw [← hsx]; exact Heap.get?_push_of_some _ e)
  have stat : ∀ {H' : Hp}, (∀ b ∈ fp, H' b = none) → ∀ b ∈ fp, FpOk XC [] H' b := fun hn b hb => by
    obtain ⟨f0, f1, f2', f3', f4, f5⟩ := f3 b hb
    refine ⟨hn b hb, ?_, ?_, .inl (by rw [← hXC]; exact hb), fun x c e => ?_, fun p hp => ?_⟩
    · rw [ctxE]
      exact Nat.ne_of_lt (by rw [hC]; exact Nat.lt_succ_of_lt (fpl b hb))
    · rw [← hXC]
      intro z
      rcases List.mem_cons.mp (I3.stkSub b z) with z | z
      · exact f1 z
      · exact f2' z
    · rw [ctxE] at e
      exact f4 x c (mem_clos e)
    · rw [← hXC] at hp
      cases hp
  have fin : ∀ {σ' : St} {H' : Hp} {s' : Shared}, Inv XC [] σ' H' s' → Q (.ref acc) H' → compPost (model X.prog X.w) X.A X.xe none (EP X pins σ Q) (.ref acc) sx.heap.objs.size (.ok .next) s' := by
    intro σ' H' s' J' q
    obtain ⟨m, hm, _⟩ := J'.loc
    have hfree := J'.free
    rw [ctxE] at hm hfree
    refine ⟨m, hm, fun h' hs' => ⟨.ref acc, H', ?_, rfl, q⟩⟩
    have u := J'.base
    rw [← hXC] at u
    have ok := J'.hok
    rw [ctxP, ctxW] at ok
    have os := J'.os
    rw [← hXC] at os
    refine I3.call' (s' := { s' with heap := h' }) os (un_same u hs' (Nat.le_refl _)) (hok_same ok hs' hfree) J'.bare fun b hb => ?_
    obtain ⟨f0, f1, f2', f3', f4, f5⟩ := f3 b hb
    exact ⟨f3', f1, f4, f5⟩
  have loop : codeAny (model X.prog X.w) X.A (.compLoop (.ListComp elt [⟨tg, iter, ifs, 0⟩] scope pos) 0 (.ref it) (.ref acc) XC.env) (compPost (model X.prog X.w) X.A X.xe none (EP X pins σ Q) (.ref acc) sx.heap.objs.size)
      { sx with heap := h3, toks := sx.toks + ([] : List (Str × Value)).length } := by
    rw [← ctxP, ← ctxW, ← ctxA]
    refine codeAny_compLoop_gen (fun n s' => ∃ i ys σ' H', Inv XC [] σ' H' s' ∧ tn i s'.heap ∧ (∀ b ∈ fp, H' b = none) ∧ W i n ys σ' H') ?_ m0 ⟨0, [], _, _, IC, st3, fun b hb => (f3 b hb).1, w0⟩
    rintro n s3 ⟨i, ys, σ3, H3, I3', st3', fr3, w3⟩
    have T' := T
    rw [← ctxP, ← ctxW, ← ctxK] at T'
    obtain ⟨hacc3, alt⟩ := turn i n ys σ3 H3 w3
    rcases alt with ⟨stop, qn⟩ | ⟨go, hsz, NN, hNN, step⟩
    · refine thn (T'.done XC rfl rfl rfl ctxC i [] s3 σ3 H3 _ I3' (stat fr3) st3' stop) fun r s4 ⟨hr, I4⟩ => ?_
      subst hr
      rw [ctxP, ctxW, ctxA]
      exact fin I4 qn
    · refine thn (T'.item XC rfl rfl rfl ctxC i [] s3 σ3 H3 _ I3' (stat fr3) st3' go) fun r s4 ⟨u, hr, h4⟩ => ?_
      subst hr
      refine thn h4 fun _ s5 ⟨x, H5, I5, r5, y5, st5, fr5⟩ => ?_
      have I5' := I5.pinned (stat fr5) (T'.obj _ _ st5)
      have a1 := body.tg _ s5 σ3 H5 x u _ I5' r5 (step x H5 y5)
      rw [ctxX] at a1
      refine thn a1 fun _ s6 ⟨σ6, H6, I6, q6⟩ => ?_
      have a2 := body.tt _ s6 σ6 H6 _ I6 q6
      rw [ctxX] at a2
      refine thn a2 fun b s7 ⟨H7, I7, q7⟩ => ?_
      have again : ∀ {s8 : Shared} {σ7 : St} {H7 : Hp} {zs : List V}, Inv XC ([] ++ pinsAt fp s5.heap) σ7 H7 s8 → NN zs σ7 H7 → ∃ m, m < n ∧ ∃ i ys σ' H', Inv XC [] σ' H' s8 ∧ tn i s8.heap ∧ (∀ b ∈ fp, H' b = none) ∧ W i m ys σ' H' := fun {s8 σ7 H7 zs} I7 n7 => by
        obtain ⟨m', hm, w7⟩ := hNN zs σ7 H7 n7
        refine ⟨m', hm, i + 1, zs, σ7, H7, I7.unpinned, T'.keep _ _ _ st5 fun b hb o e => (I7.pin (b, o) (List.mem_append_right _ (List.mem_append_right _ (mem_pinsAt hb e)))).1, fun b hb => ?_, w7⟩
        obtain ⟨o, e, d⟩ := T'.obj _ _ st5 b hb
        exact (I7.pin (b, o) (List.mem_append_right _ (List.mem_append_right _ (mem_pinsAt hb e)))).2.1
      cases b with
      | false =>
        rw [if_neg Bool.false_ne_true] at q7 ⊢
        exact again I7 q7
      | true =>
        rw [if_pos rfl] at q7 ⊢
        have a3 := body.te _ s7 σ6 H7 _ I7 q7
        rw [ctxX] at a3
        refine thn a3 fun xv s8 ⟨y, H8, I8, r8, q8⟩ => ?_
        obtain ⟨hl8, n8⟩ := q8
        have a4 := mt_append (X := XC) _ s8 σ6 H8 (.ref acc) [y] (.ref acc) [xv] (fun _ H9 => NN (ys ++ [y]) σ6 H9) I8 rfl (.cons r8 .nil) ⟨acc, ys, y, rfl, rfl, hl8, hsz, n8⟩
        rw [ctxX] at a4
        refine thn a4 fun _ s9 ⟨_, H9, I9, _, q9⟩ => ?_
        exact again I9 q9
  rw [ctxE] at loop
  exact codeAny_compStart_list loop (T.self X.A 0 _ _ _ st3 loop)
theorem ps_setComp0 {y : Str} {py spos : Pos} {ix : Nat} {tg iter elt : Expr} {ifs : List Expr} {scope : Scope} {pos : Pos} {wi : TI} {N : List Str} {nt : Nat} {cs : List Nat} {g : TG} {tt : TT} {te : TE} (hc : X.calm = true) (hi : PI X tg iter wi)
    (hb : N.Nodup → ∀ (C : Addr) (s : Shared) (H : Hp) (fp : List Addr), CompBody (compCx X N scope C s H fp) tg ifs elt g tt te)
    (hnd : N.Nodup) (hsc : scB scope X.env.scope = true) (hcap : capB cs (N.drop nt) X.N scope X.env.scope = true) (hlen : N.length = nt + cs.length)
    (hs : ∀ x, foldedSetIterable iter X.env x = pure x) (hN : X.N.Nodup) (hix : X.N[ix]? = some y) (hy : Loc X.env.scope y) (hf : X.fn y = true ∨ X.env.scope.names.lookup y = some .local)
    (hsw : swapsWith (.ListComp elt [⟨tg, iter, ifs, 0⟩] scope pos) (some (.Name y py)) spos.line X.env = pure true) : PS X (.Assign [.Name y py] (.ListComp elt [⟨tg, iter, ifs, 0⟩] scope pos) spos) (tAsg (tComp wi nt cs g tt te) (gName ix)) := by
  intro pins s σ H D I h
  have hsc' := hsc
  unfold scB at hsc'
  rw [Bool.and_eq_true] at hsc'
  obtain ⟨hkd, hall⟩ := hsc'
  have hkd : scope.kind = .function := by simpa using hkd
  rw [List.all_eq_true] at hall
  have nocell : ∀ x ∈ scope.names, x.2 ≠ .cell := fun x hx e => by have := hall x hx; rw [e] at this; simp at this
  have hnames : ∀ x ∈ scope.names, x.2 = .local → scope.names.lookup x.1 = some .local := fun x hx e => by
    have := hall x hx
    rw [e] at this
    simp only [bne_self_eq_false, Bool.false_or, Bool.and_eq_true, beq_iff_eq] at this
    exact this.1.2
  have hclos : closureFor scope X.env = pure (closOf scope X.env) := closureFor_ok fun x hx e => by
    have := hall x hx
    rw [e] at this
    simp only [bne_self_eq_false, Bool.false_or, Bool.and_eq_true, Bool.or_eq_true, beq_iff_eq] at this
    exact I.ok.has x.1 this.2
  rw [exec_Assign_Name_used _ _ _ _ hsw]
  refine wpAny_bind (wpAny_standAt (wpAny_bind ?_))
  show wpAny _ X.A (do let _ ← comprehension (.ListComp elt [⟨tg, iter, ifs, 0⟩] scope pos) scope X.env _ (newList []) false (eval iter X.env) (some (assign (.Name y py) X.env))) _ _ s
  refine wpAny_bind (wpAny_mono (wpAny_comprehension_free (use := some (assign (.Name y py) X.env)) (Q := fun _ s' => SP X pins D .next s') rfl hs hclos hkd hnames
    (thn (hi pins s σ H _ I h) fun v s1 h1 => thn h1 fun itv s2 h2 => ?_)) (fun _ s' hq => wpAny_pure (wpAny_pure hq)) fun _ _ e => e)
  obtain ⟨it, fp, tn, J, H2, e, I2, T, st2, f2, hR⟩ := h2
  subst e
  refine wpAny_newObj_type (wpAny_newFunctionEnv nocell (by intro y hy; simp at hy) (fun h3 hn3 hs3 => ?_) hkd)
  have fr := I2.fresh
  have I3 : Inv X pins σ (upd H2 s2.heap.objs.size (.lst [])) { s2 with heap := s2.heap.push { cls := .type "list", data := .seq ([] : List Value).toArray }, toks := s2.toks } := I2.lnew .nil (le_size (by decide))
  obtain ⟨W, ⟨m0, w0⟩, turn⟩ := hR _ fr
  generalize hacc : s2.heap.objs.size = acc at *
  generalize hsx : ({ s2 with heap := s2.heap.push { cls := .type "list", data := .seq ([] : List Value).toArray }, toks := s2.toks } : Shared) = sx at *
  have hC : sx.heap.objs.size = acc + 1 := by rw [← hsx, ← hacc]; exact Heap.size_push _ _
  have fpl : ∀ b ∈ fp, b < acc := fun b hb => by
    obtain ⟨o, ho, _⟩ := T.obj _ _ st2 b hb
    rw [← hacc]
    exact Heap.lt_size ho
  have f3 : ∀ b ∈ fp, FpOk X pins (upd H2 acc (.lst [])) b := fun b hb => by
    obtain ⟨f0, f1⟩ := f2 b hb
    exact ⟨by rw [upd_ne (Nat.ne_of_lt (fpl b hb))]; exact f0, f1⟩
  have keep3 : ∀ b o, sx.heap.get? b = some o → h3.get? b = some o := fun b o e => by
    have hne : b ≠ sx.heap.objs.size := Nat.ne_of_lt (Heap.lt_size e)
    exact (hs3.2 b hne).trans (Heap.get?_push_of_some _ e)
  have IC : Inv (compCx X N scope sx.heap.objs.size sx (upd H2 acc (.lst [])) fp) [] (capSt nt cs σ) (upd H2 acc (.lst [])) { sx with heap := h3, toks := sx.toks + ([] : List (Str × Value)).length } :=
    compCx_inv I3 hsc hcap hlen f3 (fun b hb => by rw [hC]; exact Nat.lt_succ_of_lt (fpl b hb)) (by simpa using hn3) keep3
  have hn3' : H2 acc = none := fr
  generalize hXC : compCx X N scope sx.heap.objs.size sx (upd H2 acc (.lst [])) fp = XC at IC
  have ctxP : XC.prog = X.prog := by rw [← hXC]; rfl
  have ctxW : XC.w = X.w := by rw [← hXC]; rfl
  have ctxK : XC.K = X.K := by rw [← hXC]; rfl
  have ctxA : XC.A = X.A := by rw [← hXC]; rfl
  have ctxC : XC.calm = true := by rw [← hXC]; exact hc
  have ctxX : XC.xe = fun _ _ => False := by rw [← hXC]; rfl
  have ctxE : XC.env = compEnvC scope (closOf scope X.env) sx.heap.objs.size X.env := by rw [← hXC]; rfl
  have body : CompBody XC tg ifs elt g tt te := by rw [← hXC]; exact hb hnd _ _ _ _
  have st3 : tn 0 h3 := T.keep _ _ _ st2 fun b hb o e => keep3 b o (by rw [← hsx]; exact Heap.get?_push_of_some _ e)
  have stat : ∀ {H' : Hp}, (∀ b ∈ fp, H' b = none) → ∀ b ∈ fp, FpOk XC [] H' b := fun hn b hb => by
    obtain ⟨f0, f1, f2', f3', f4, f5⟩ := f3 b hb
    refine ⟨hn b hb, ?_, ?_, .inl (by rw [← hXC]; exact hb), fun x c e => ?_, fun p hp => ?_⟩
    · rw [ctxE]
      exact Nat.ne_of_lt (by rw [hC]; exact Nat.lt_succ_of_lt (fpl b hb))
    · rw [← hXC]
      intro z
      rcases List.mem_cons.mp (I3.stkSub b z) with z | z
      · exact f1 z
      · exact f2' z
    · rw [ctxE] at e
      exact f4 x c (mem_clos e)
    · rw [← hXC] at hp
      cases hp
  have fin : ∀ {σ' : St} {H' : Hp} {s' : Shared}, Inv XC [] σ' H' s' → D.nx (σ.set ix (some (.ref acc))) H' → compPost (model X.prog X.w) X.A X.xe (some (assign (.Name y py) X.env)) (fun _ s' => SP X pins D .next s') (.ref acc) sx.heap.objs.size (.ok .next) s' := by
    intro σ' H' s' J' q
    obtain ⟨m, hm, _⟩ := J'.loc
    have hfree := J'.free
    rw [ctxE] at hm hfree
    have u := J'.base
    rw [← hXC] at u
    have ok := J'.hok
    rw [ctxP, ctxW] at ok
    have os := J'.os
    rw [← hXC] at os
    have IX : Inv X pins σ H' s' := I3.call' os u ok J'.bare fun b hb => by
      obtain ⟨f0, f1, f2', f3', f4, f5⟩ := f3 b hb
      exact ⟨f3', f1, f4, f5⟩
    have hCL : sx.heap.objs.size ≠ X.env.locals := Nat.ne_of_gt I3.lt
    have hCc : ∀ x c, X.env.cells.lookup x = some c → c ≠ sx.heap.objs.size := fun x c e => by
      obtain ⟨v, z⟩ := I3.cell x c e
      exact Nat.ne_of_lt z.lt
    have hCp : ∀ p ∈ X.pn ++ pins, p.1 ≠ sx.heap.objs.size := fun p hp => Nat.ne_of_lt (Heap.lt_size (I3.pin p hp).1)
    show wpAny _ X.A (assign (.Name y py) X.env (.ref acc)) _ _ s'
    refine wpAny_assign_Name (store_ok2 IX hN hix hy (v := .ref acc) rfl (fun s'' I'' ⟨a, hsb, ha⟩ => ?_) hf)
    have hCa : sx.heap.objs.size ≠ a := fun z => by
      rcases ha with e | e
      · exact hCL (z.trans e)
      · exact hCc _ _ e z.symm
    refine ⟨m, hm.sameBut hsb hCa, fun h' hs' => ⟨_, H', ?_, q⟩⟩
    exact I''.turned (t' := s''.toks) (fun b o hb e => (hs'.2 b hb).trans e) hfree hCL (.inr I3.sz) hCc hCp
  have loop : codeAny (model X.prog X.w) X.A (.compLoop (.ListComp elt [⟨tg, iter, ifs, 0⟩] scope pos) 0 (.ref it) (.ref acc) XC.env) (compPost (model X.prog X.w) X.A X.xe (some (assign (.Name y py) X.env)) (fun _ s' => SP X pins D .next s') (.ref acc) sx.heap.objs.size)
      { sx with heap := h3, toks := sx.toks + ([] : List (Str × Value)).length } := by
    rw [← ctxP, ← ctxW, ← ctxA]
    refine codeAny_compLoop_gen (fun n s' => ∃ i ys σ' H', Inv XC [] σ' H' s' ∧ tn i s'.heap ∧ (∀ b ∈ fp, H' b = none) ∧ W i n ys σ' H') ?_ m0 ⟨0, [], _, _, IC, st3, fun b hb => (f3 b hb).1, w0⟩
    rintro n s3 ⟨i, ys, σ3, H3, I3', st3', fr3, w3⟩
    have T' := T
    rw [← ctxP, ← ctxW, ← ctxK] at T'
    obtain ⟨hacc3, alt⟩ := turn i n ys σ3 H3 w3
    rcases alt with ⟨stop, qn⟩ | ⟨go, hsz, NN, hNN, step⟩
    · refine thn (T'.done XC rfl rfl rfl ctxC i [] s3 σ3 H3 _ I3' (stat fr3) st3' stop) fun r s4 ⟨hr, I4⟩ => ?_
      subst hr
      rw [ctxP, ctxW, ctxA]
      exact fin I4 qn
    · refine thn (T'.item XC rfl rfl rfl ctxC i [] s3 σ3 H3 _ I3' (stat fr3) st3' go) fun r s4 ⟨u, hr, h4⟩ => ?_
      subst hr
      refine thn h4 fun _ s5 ⟨x, H5, I5, r5, y5, st5, fr5⟩ => ?_
      have I5' := I5.pinned (stat fr5) (T'.obj _ _ st5)
      have a1 := body.tg _ s5 σ3 H5 x u _ I5' r5 (step x H5 y5)
      rw [ctxX] at a1
      refine thn a1 fun _ s6 ⟨σ6, H6, I6, q6⟩ => ?_
      have a2 := body.tt _ s6 σ6 H6 _ I6 q6
      rw [ctxX] at a2
      refine thn a2 fun b s7 ⟨H7, I7, q7⟩ => ?_
      have again : ∀ {s8 : Shared} {σ7 : St} {H7 : Hp} {zs : List V}, Inv XC ([] ++ pinsAt fp s5.heap) σ7 H7 s8 → NN zs σ7 H7 → ∃ m, m < n ∧ ∃ i ys σ' H', Inv XC [] σ' H' s8 ∧ tn i s8.heap ∧ (∀ b ∈ fp, H' b = none) ∧ W i m ys σ' H' := fun {s8 σ7 H7 zs} I7 n7 => by
        obtain ⟨m', hm, w7⟩ := hNN zs σ7 H7 n7
        refine ⟨m', hm, i + 1, zs, σ7, H7, I7.unpinned, T'.keep _ _ _ st5 fun b hb o e => (I7.pin (b, o) (List.mem_append_right _ (List.mem_append_right _ (mem_pinsAt hb e)))).1, fun b hb => ?_, w7⟩
        obtain ⟨o, e, d⟩ := T'.obj _ _ st5 b hb
        exact (I7.pin (b, o) (List.mem_append_right _ (List.mem_append_right _ (mem_pinsAt hb e)))).2.1
      cases b with
      | false =>
        rw [if_neg Bool.false_ne_true] at q7 ⊢
        exact again I7 q7
      | true =>
        rw [if_pos rfl] at q7 ⊢
        have a3 := body.te _ s7 σ6 H7 _ I7 q7
        rw [ctxX] at a3
        refine thn a3 fun xv s8 ⟨y, H8, I8, r8, q8⟩ => ?_
        obtain ⟨hl8, n8⟩ := q8
        have a4 := mt_append (X := XC) _ s8 σ6 H8 (.ref acc) [y] (.ref acc) [xv] (fun _ H9 => NN (ys ++ [y]) σ6 H9) I8 rfl (.cons r8 .nil) ⟨acc, ys, y, rfl, rfl, hl8, hsz, n8⟩
        rw [ctxX] at a4
        refine thn a4 fun _ s9 ⟨_, H9, I9, _, q9⟩ => ?_
        exact again I9 q9
  rw [ctxE] at loop
  exact codeAny_compStart_list loop (T.self X.A 0 _ _ _ st3 loop)
end
end L2
set_option Elab.async false
set_option linter.all false
set_option maxRecDepth 100000
set_option maxHeartbeats 1000000
namespace L2
open PySem PySem.Spec PyProof.Rows
inductive Dt where
  | f (x : V)
  | l (xs : List Dt)
  | t (xs : List Dt)
mutual
def Is (K : PySem.W.Frag) (H : Hp) (x : V) : Dt → Prop
  | .f y => x = y ∧ flatV y = true
  | .l ds => ∃ p xs, x = .ref p ∧ SqL K H p xs ∧ IsL K H xs ds
  | .t ds => ∃ p xs, x = .ref p ∧ SqT K H p xs ∧ IsL K H xs ds
def IsL (K : PySem.W.Frag) (H : Hp) (xs : List V) : List Dt → Prop
  | [] => xs = []
  | d :: ds => ∃ x r, xs = x :: r ∧ Is K H x d ∧ IsL K H r ds
end
mutual
def deq : Dt → Dt → Bool
  | .f x, .f y => eqV x y
  | .l xs, .l ys => deqL xs ys
  | .t xs, .t ys => deqL xs ys
  | _, _ => false
def deqL : List Dt → List Dt → Bool
  | [], [] => true
  | x :: xs, y :: ys => deq x y && deqL xs ys
  | _, _ => false
end
mutual
def dep : Dt → Nat
  | .f _ => 0
  | .l xs => depL xs + 1
  | .t xs => depL xs + 1
def depL : List Dt → Nat
  | [] => 0
  | d :: ds => max (dep d) (depL ds)
end
theorem IsL.len {K : PySem.W.Frag} {H : Hp} : ∀ {ds : List Dt} {xs : List V}, IsL K H xs ds → xs.length = ds.length
  | [], xs, h => by rw [IsL] at h; subst h; rfl
  | d :: ds, xs, h => by
    rw [IsL] at h
    obtain ⟨x, r, rfl, _, h⟩ := h
    rw [List.length_cons, List.length_cons, IsL.len h]
theorem IsL.get {K : PySem.W.Frag} {H : Hp} : ∀ {ds : List Dt} {xs : List V} {j : Nat} {x : V}, IsL K H xs ds → xs[j]? = some x → ∃ d, ds[j]? = some d ∧ Is K H x d
  | [], xs, j, x, h, e => by rw [IsL] at h; subst h; simp at e
  | d :: ds, xs, j, x, h, e => by
    rw [IsL] at h
    obtain ⟨y, r, rfl, hy, h⟩ := h
    cases j with
    | zero => simp at e; subst e; exact ⟨d, rfl, hy⟩
    | succ j => exact IsL.get (j := j) h (by simpa using e)
theorem depL_mem {ds : List Dt} : ∀ {d : Dt} {j : Nat}, ds[j]? = some d → dep d ≤ depL ds := by
  induction ds with
  | nil => intro d j e; simp at e
  | cons a r ih =>
    intro d j e
    rw [depL]
    cases j with
    | zero => simp at e; subst e; omega
    | succ j => have := ih (d := d) (j := j) (by simpa using e); omega
mutual
theorem deq_refl : ∀ (d : Dt) {K : PySem.W.Frag} {H : Hp} {x : V}, Is K H x d → deq d d = true
  | .f y, K, H, x, h => by
    rw [Is] at h
    rw [deq]
    have hy := h.2
    cases y <;> first | (simp [eqV]; done) | (exact absurd hy (by decide)) | (cases hy)
  | .l ds, K, H, x, h => by
    rw [Is] at h
    obtain ⟨p, xs, _, _, h⟩ := h
    rw [deq]
    exact deqL_refl ds h
  | .t ds, K, H, x, h => by
    rw [Is] at h
    obtain ⟨p, xs, _, _, h⟩ := h
    rw [deq]
    exact deqL_refl ds h
theorem deqL_refl : ∀ (ds : List Dt) {K : PySem.W.Frag} {H : Hp} {xs : List V}, IsL K H xs ds → deqL ds ds = true
  | [], _, _, _, _ => by rw [deqL]
  | d :: ds, K, H, xs, h => by
    rw [IsL] at h
    obtain ⟨y, r, _, hy, h⟩ := h
    rw [deqL, deq_refl d hy, deqL_refl ds h]
    rfl
end
theorem deqL_get : ∀ {ds es : List Dt}, deqL ds es = (decide (ds.length = es.length) && (List.range ds.length).all fun j => match ds[j]?, es[j]? with | some d, some e => deq d e | _, _ => false)
  | [], [] => by simp [deqL]
  | [], e :: es => by simp [deqL]
  | d :: ds, [] => by simp [deqL]
  | d :: ds, e :: es => by
    rw [deqL, deqL_get]
    have r : List.range (d :: ds).length = 0 :: (List.range ds.length).map (· + 1) := by rw [List.length_cons, List.range_succ_eq_map]
    rw [r, List.all_cons, List.all_map]
    simp only [List.getElem?_cons_zero, List.length_cons, Nat.add_right_cancel_iff]
    have c : ((fun j => match (d :: ds)[j]?, (e :: es)[j]? with | some d, some e => deq d e | _, _ => false) ∘ fun x => x + 1) = (fun j => match ds[j]?, es[j]? with | some d, some e => deq d e | _, _ => false) := by
      funext j
      simp
    rw [c]
    cases deq d e <;> cases decide (ds.length = es.length) <;> rfl
section
variable {X : Cx} {pins : List (Addr × Obj)} {σ : St} {H : Hp} {s : Shared}
mutual
theorem Is.inj : ∀ (d : Dt) {e : Dt} {x : V}, Inv X pins σ H s → Is X.K H x d → Is X.K H x e → (∀ p xs ys, SqL X.K H p xs → ¬ SqT X.K H p ys) → d = e
  | .f y, e, x, I, h, h', hk => by
    rw [Is] at h
    obtain ⟨rfl, hy⟩ := h
    cases e with
    | f z => rw [Is] at h'; rw [h'.1]
    | l ds => rw [Is] at h'; obtain ⟨p, xs, e, _⟩ := h'; subst e; cases hy
    | t ds => rw [Is] at h'; obtain ⟨p, xs, e, _⟩ := h'; subst e; cases hy
  | .l ds, e, x, I, h, h', hk => by
    rw [Is] at h
    obtain ⟨p, xs, rfl, hs, h⟩ := h
    cases e with
    | f z => rw [Is] at h'; obtain ⟨e, hz⟩ := h'; subst e; cases hz
    | l es =>
      rw [Is] at h'
      obtain ⟨q, ys, e, hs', h'⟩ := h'
      cases e
      rw [I.list_inj hs' hs] at h'
      rw [IsL.inj ds I h h' hk]
    | t es =>
      rw [Is] at h'
      obtain ⟨q, ys, e, hs', h'⟩ := h'
      cases e
      exact absurd hs' (hk _ _ _ hs)
  | .t ds, e, x, I, h, h', hk => by
    rw [Is] at h
    obtain ⟨p, xs, rfl, hs, h⟩ := h
    cases e with
    | f z => rw [Is] at h'; obtain ⟨e, hz⟩ := h'; subst e; cases hz
    | l es =>
      rw [Is] at h'
      obtain ⟨q, ys, e, hs', h'⟩ := h'
      cases e
      exact absurd hs (hk _ _ _ hs')
    | t es =>
      rw [Is] at h'
      obtain ⟨q, ys, e, hs', h'⟩ := h'
      cases e
      rw [I.tuple_inj hs' hs] at h'
      rw [IsL.inj ds I h h' hk]
theorem IsL.inj : ∀ (ds : List Dt) {es : List Dt} {xs : List V}, Inv X pins σ H s → IsL X.K H xs ds → IsL X.K H xs es → (∀ p xs ys, SqL X.K H p xs → ¬ SqT X.K H p ys) → ds = es
  | [], es, xs, I, h, h', hk => by
    rw [IsL] at h
    subst h
    cases es with
    | nil => rfl
    | cons e es => rw [IsL] at h'; obtain ⟨_, _, e, _⟩ := h'; cases e
  | d :: ds, es, xs, I, h, h', hk => by
    rw [IsL] at h
    obtain ⟨y, r, rfl, hy, h⟩ := h
    cases es with
    | nil => rw [IsL] at h'; cases h'
    | cons e es =>
      rw [IsL] at h'
      obtain ⟨y', r', e1, hy', h'⟩ := h'
      cases e1
      rw [Is.inj d I hy hy' hk, IsL.inj ds I h h' hk]
end
theorem Inv.apart (I : Inv X pins σ H s) : ∀ p xs ys, SqL X.K H p xs → ¬ SqT X.K H p ys := fun p xs ys h h' => by
  obtain ⟨its, _, ⟨o, n, e, c, _⟩, _⟩ := I.list h
  obtain ⟨its', _, ⟨o', e', c', _⟩, _⟩ := I.tuple h'
  rw [e] at e'
  cases e'
  rw [c] at c'
  exact absurd c' (by decide)
theorem eqAt_F {x : V} (e : Dt) {A : Around} {y : V} {u v : Value} (hu : A.units < cLine) (I : Inv X pins σ H s) (fx : flatV x = true) (hy : Is X.K H y e) (rx : RelV x u) (ry : RelV y v) : SeqAt.EqAt A s u v (deq (.f x) e) := by
  cases e with
  | f y' =>
    rw [Is] at hy
    obtain ⟨rfl, fy⟩ := hy
    rw [deq]
    exact eqAt_V rx ry fx fy
  | l ds =>
    rw [Is] at hy
    obtain ⟨p, ys, rfl, hs, _⟩ := hy
    cases ry
    obtain ⟨its, _, pl, _⟩ := I.list hs
    have hl := pl.isList
    rw [show deq (.f x) (.l ds) = false by rw [deq]; all_goals (intros; simp_all)]
    cases x with
    | non => cases rx; exact SeqAt.EqAt.none_list hl hu
    | bl b => cases rx; exact SeqAt.EqAt.bool_list b hl hu
    | int i => obtain ⟨t, rfl⟩ := rx; exact SeqAt.EqAt.int_list i t hl hu
    | str z => obtain ⟨t, rfl⟩ := rx; exact SeqAt.EqAt.str_list z t hl hu
    | _ => cases fx
  | t ds =>
    rw [Is] at hy
    obtain ⟨p, ys, rfl, hs, _⟩ := hy
    cases ry
    obtain ⟨its, _, pl, _⟩ := I.tuple hs
    have hl : s.heap.IsTuple p its.toArray := pl
    rw [show deq (.f x) (.t ds) = false by rw [deq]; all_goals (intros; simp_all)]
    cases x with
    | non => cases rx; exact SeqAt.EqAt.none_tuple hl hu
    | bl b => cases rx; exact SeqAt.EqAt.bool_tuple b hl hu
    | int i => obtain ⟨t, rfl⟩ := rx; exact SeqAt.EqAt.int_tuple i t hl hu
    | str z => obtain ⟨t, rfl⟩ := rx; exact SeqAt.EqAt.str_tuple z t hl hu
    | _ => cases fx
def deqAt (ds es : List Dt) (j : Nat) : Bool := match ds[j]?, es[j]? with | some d, some e => deq d e | _, _ => false
theorem elems {n : Nat} {A : Around} (ih : ∀ (d e : Dt) {A : Around} {x y : V} {u v : Value}, dep d ≤ n → A.units + n < cLine → Inv X pins σ H s → Is X.K H x d → Is X.K H y e → RelV x u → RelV y v → SeqAt.EqAt A s u v (deq d e)) (hu : A.units + (n + 1) < cLine) (I : Inv X pins σ H s)
    {ds es : List Dt} {xs ys : List V} {its its' : List Value} (hd : depL ds ≤ n) (hx : IsL X.K H xs ds) (hy : IsL X.K H ys es) (rx : Vals xs its) (ry : Vals ys its') :
    ∀ j (h1 : j < its.toArray.size) (h2 : j < its'.toArray.size), SeqAt.EqAt A.in1 s its.toArray[j] its'.toArray[j] (deqAt ds es j) := by
  intro j h1 h2
  have l1 := rx.length
  have l2 := ry.length
  have k1 : j < xs.length := by simpa [l1] using h1
  have k2 : j < ys.length := by simpa [l2] using h2
  obtain ⟨d, e1, q1⟩ := hx.get (List.getElem?_eq_getElem k1)
  obtain ⟨e, e2, q2⟩ := hy.get (List.getElem?_eq_getElem k2)
  obtain ⟨u, hu', ru⟩ := rx.get (List.getElem?_eq_getElem k1)
  obtain ⟨v, hv', rv⟩ := ry.get (List.getElem?_eq_getElem k2)
  have f1 : its.toArray[j] = u := by
    have : its[j]? = some its.toArray[j] := by simp
    rw [hu'] at this
    exact (Option.some.inj this).symm
  have f2 : its'.toArray[j] = v := by
    have : its'[j]? = some its'.toArray[j] := by simp
    rw [hv'] at this
    exact (Option.some.inj this).symm
  rw [f1, f2]
  unfold deqAt
  rw [e1, e2]
  exact ih d e (Nat.le_trans (depL_mem e1) hd) (by rw [Around.in1_units]; omega) I q1 q2 ru rv
theorem all_deqAt {ds es : List Dt} (h : ds.length = es.length) : (List.range ds.length).all (deqAt ds es) = deqL ds es := by
  rw [deqL_get, decide_eq_true h, Bool.true_and]
  rfl
theorem deqL_ne {ds es : List Dt} (h : ds.length ≠ es.length) : deqL ds es = false := by
  rw [deqL_get, decide_eq_false h, Bool.false_and]
theorem rcAt_D : ∀ (n : Nat) (d e : Dt) {A : Around} {x y : V} {u v : Value}, dep d ≤ n → A.units + n < cLine → Inv X pins σ H s → Is X.K H x d → Is X.K H y e → RelV x u → RelV y v → SeqAt.EqAt A s u v (deq d e) ∧ (∀ p, x = .ref p → SeqAt.RcAt A s u v (deq d e))
  | n, .f x', e, A, x, y, u, v, hn, hu, I, hx, hy, rx, ry => by
    rw [Is] at hx
    obtain ⟨rfl, fx⟩ := hx
    exact ⟨eqAt_F e (by omega) I fx hy rx ry, fun p e => by subst e; cases fx⟩
  | 0, .l ds, e, A, x, y, u, v, hn, hu, I, hx, hy, rx, ry => by rw [dep] at hn; omega
  | 0, .t ds, e, A, x, y, u, v, hn, hu, I, hx, hy, rx, ry => by rw [dep] at hn; omega
  | n + 1, .l ds, e, A, x, y, u, v, hn, hu, I, hx, hy, rx, ry => by
    rw [dep] at hn
    have hx0 := hx
    rw [Is] at hx
    obtain ⟨p, xs, rfl, hs, hxs⟩ := hx
    cases rx
    obtain ⟨its, rv, pl, _⟩ := I.list hs
    have hl := pl.isList
    have hu' : A.units < cLine := by omega
    have ih := fun (d e : Dt) {A : Around} {x y : V} {u v : Value} (a : dep d ≤ n) (b : A.units + n < cLine) (c : Inv X pins σ H s) (f : Is X.K H x d) (g : Is X.K H y e) (h : RelV x u) (i : RelV y v) => (rcAt_D n d e a b c f g h i).1
    cases e with
    | f y' =>
      rw [Is] at hy
      obtain ⟨rfl, fy⟩ := hy
      rw [show deq (.l ds) (.f y) = false by rw [deq]; all_goals (intros; simp_all)]
      cases y with
      | non => cases ry; exact ⟨SeqAt.EqAt.list_none hl hu', fun _ _ => SeqAt.RcAt.list_none hl hu'⟩
      | bl b => cases ry; exact ⟨SeqAt.EqAt.list_bool b hl hu', fun _ _ => SeqAt.RcAt.list_bool b hl hu'⟩
      | int i => obtain ⟨t, rfl⟩ := ry; exact ⟨SeqAt.EqAt.list_int i t hl hu', fun _ _ => SeqAt.RcAt.list_int i t hl hu'⟩
      | str z => obtain ⟨t, rfl⟩ := ry; exact ⟨SeqAt.EqAt.list_str z t hl hu', fun _ _ => SeqAt.RcAt.list_str z t hl hu'⟩
      | _ => cases fy
    | l es =>
      have hy0 := hy
      rw [Is] at hy
      obtain ⟨q, ys, rfl, hs', hys⟩ := hy
      cases ry
      obtain ⟨its', rv', pl', _⟩ := I.list hs'
      have hl' := pl'.isList
      have e1 : its.toArray.size = ds.length := by rw [List.size_toArray, ← rv.length, hxs.len]
      have e2 : its'.toArray.size = es.length := by rw [List.size_toArray, ← rv'.length, hys.len]
      have rc : SeqAt.RcAt A s (.ref p) (.ref q) (deq (.l ds) (.l es)) := by
        rw [deq]
        by_cases hz : ds.length = es.length
        · have := SeqAt.RcAt.lists hl hl' (by omega) hu' (elems ih hu I (by omega) hxs hys rv rv')
          rw [e1, all_deqAt hz] at this
          exact this
        · rw [deqL_ne hz]
          exact SeqAt.RcAt.lists_lengths hl hl' (by rw [bne_iff_ne]; omega) hu'
      refine ⟨?_, fun _ _ => rc⟩
      by_cases hpq : p = q
      · subst hpq
        have := Is.inj _ I hx0 hy0 I.apart
        rw [← this, deq_refl _ hx0]
        exact SeqAt.EqAt.same _
      · exact SeqAt.EqAt.of_refs hpq rc
    | t es =>
      rw [Is] at hy
      obtain ⟨q, ys, rfl, hs', hys⟩ := hy
      cases ry
      obtain ⟨its', rv', pl', _⟩ := I.tuple hs'
      have hl' : s.heap.IsTuple q its'.toArray := pl'
      rw [show deq (.l ds) (.t es) = false by rw [deq]; all_goals (intros; simp_all)]
      exact ⟨SeqAt.EqAt.list_tuple hl hl' hu', fun _ _ => SeqAt.RcAt.list_tuple hl hl' hu'⟩
  | n + 1, .t ds, e, A, x, y, u, v, hn, hu, I, hx, hy, rx, ry => by
    rw [dep] at hn
    have hx0 := hx
    rw [Is] at hx
    obtain ⟨p, xs, rfl, hs, hxs⟩ := hx
    cases rx
    obtain ⟨its, rv, pl, _⟩ := I.tuple hs
    have hl : s.heap.IsTuple p its.toArray := pl
    have hu' : A.units < cLine := by omega
    have ih := fun (d e : Dt) {A : Around} {x y : V} {u v : Value} (a : dep d ≤ n) (b : A.units + n < cLine) (c : Inv X pins σ H s) (f : Is X.K H x d) (g : Is X.K H y e) (h : RelV x u) (i : RelV y v) => (rcAt_D n d e a b c f g h i).1
    cases e with
    | f y' =>
      rw [Is] at hy
      obtain ⟨rfl, fy⟩ := hy
      rw [show deq (.t ds) (.f y) = false by rw [deq]; all_goals (intros; simp_all)]
      cases y with
      | non => cases ry; exact ⟨SeqAt.EqAt.tuple_none hl hu', fun _ _ => SeqAt.RcAt.tuple_none hl hu'⟩
      | bl b => cases ry; exact ⟨SeqAt.EqAt.tuple_bool b hl hu', fun _ _ => SeqAt.RcAt.tuple_bool b hl hu'⟩
      | int i => obtain ⟨t, rfl⟩ := ry; exact ⟨SeqAt.EqAt.tuple_int i t hl hu', fun _ _ => SeqAt.RcAt.tuple_int i t hl hu'⟩
      | str z => obtain ⟨t, rfl⟩ := ry; exact ⟨SeqAt.EqAt.tuple_str z t hl hu', fun _ _ => SeqAt.RcAt.tuple_str z t hl hu'⟩
      | _ => cases fy
    | l es =>
      rw [Is] at hy
      obtain ⟨q, ys, rfl, hs', hys⟩ := hy
      cases ry
      obtain ⟨its', rv', pl', _⟩ := I.list hs'
      have hl' := pl'.isList
      rw [show deq (.t ds) (.l es) = false by rw [deq]; all_goals (intros; simp_all)]
      exact ⟨SeqAt.EqAt.tuple_list hl hl' hu', fun _ _ => SeqAt.RcAt.tuple_list hl hl' hu'⟩
    | t es =>
      have hy0 := hy
      rw [Is] at hy
      obtain ⟨q, ys, rfl, hs', hys⟩ := hy
      cases ry
      obtain ⟨its', rv', pl', _⟩ := I.tuple hs'
      have hl' : s.heap.IsTuple q its'.toArray := pl'
      have e1 : its.toArray.size = ds.length := by rw [List.size_toArray, ← rv.length, hxs.len]
      have e2 : its'.toArray.size = es.length := by rw [List.size_toArray, ← rv'.length, hys.len]
      have rc : SeqAt.RcAt A s (.ref p) (.ref q) (deq (.t ds) (.t es)) := by
        rw [deq]
        have := SeqAt.RcAt.tuples hl hl' hu' (elems ih hu I (by omega) hxs hys rv rv')
        rw [e1, e2] at this
        by_cases hz : ds.length = es.length
        · rw [← hz, Nat.min_self, all_deqAt hz, beq_self_eq_true, Bool.and_true] at this
          exact this
        · rw [deqL_ne hz]
          have : (ds.length == es.length) = false := by simpa using hz
          simp_all
      refine ⟨?_, fun _ _ => rc⟩
      by_cases hpq : p = q
      · subst hpq
        have := Is.inj _ I hx0 hy0 I.apart
        rw [← this, deq_refl _ hx0]
        exact SeqAt.EqAt.same _
      · exact SeqAt.EqAt.of_refs hpq rc
end
def rEqD (K : PySem.W.Frag) : R2 := fun x y H Q => ∃ p d e, x = .ref p ∧ Is K H x d ∧ Is K H y e ∧ dep d ≤ 50 ∧ Q (.bl (deq d e)) H
def rNeD (K : PySem.W.Frag) : R2 := fun x y H Q => ∃ p d e, x = .ref p ∧ Is K H x d ∧ Is K H y e ∧ dep d ≤ 50 ∧ Q (.bl (!deq d e)) H
section
variable {X : Cx}
theorem op_eqD {k : Nat} (hr : Room k X.A) : OpR X (compareOp .Eq) (rEqD X.K) := by
  intro pins s σ H x y v u Q I rx ry h
  obtain ⟨p, d, e, rfl, hx, hy, hd, q⟩ := h
  have := (rcAt_D 50 d e (A := X.A) hd (by have := hr.units; omega) I hx hy rx ry).2 p rfl
  exact this X.prog X.w X.xe _ ⟨.bl _, H, I, rfl, q⟩
end
end L2
set_option Elab.async false
set_option linter.all false
set_option maxRecDepth 100000
set_option maxHeartbeats 1000000
namespace L2
open PySem PySem.Spec PyProof.Rows
section
variable {X : Cx} {pins : List (Addr × Obj)} {σ : St} {H : Hp} {s : Shared}
theorem ih50 (n : Nat) (d e : Dt) {A : Around} {x y : V} {u v : Value} (a : dep d ≤ n) (b : A.units + n < cLine) (c : Inv X pins σ H s) (f : Is X.K H x d) (g : Is X.K H y e) (h : RelV x u) (i : RelV y v) : SeqAt.EqAt A s u v (deq d e) := (rcAt_D n d e a b c f g h i).1
theorem neAt_D (n : Nat) (d e : Dt) {A : Around} {p : Addr} {y : V} {v : Value} (hn : dep d ≤ n + 1) (hu : A.units + (n + 1) < cLine) (I : Inv X pins σ H s) (hx : Is X.K H (.ref p) d) (hy : Is X.K H y e) (ry : RelV y v) : SeqAt.RcNeAt A s (.ref p) v (!deq d e) := by
  have hu' : A.units < cLine := by omega
  cases d with
  | f x => rw [Is] at hx; obtain ⟨e, hz⟩ := hx; subst e; cases hz
  | l ds =>
    rw [dep] at hn
    rw [Is] at hx
    obtain ⟨p', xs, e0, hs, hxs⟩ := hx
    cases e0
    obtain ⟨its, rv, pl, _⟩ := I.list hs
    have hl := pl.isList
    cases e with
    | f y' =>
      rw [Is] at hy
      obtain ⟨rfl, fy⟩ := hy
      rw [show deq (.l ds) (.f y) = false by rw [deq]; all_goals (intros; simp_all)]
      cases y with
      | non => cases ry; exact SeqAt.RcNeAt.list_none hl hu'
      | bl b => cases ry; exact SeqAt.RcNeAt.list_bool b hl hu'
      | int i => obtain ⟨t, rfl⟩ := ry; exact SeqAt.RcNeAt.list_int i t hl hu'
      | str z => obtain ⟨t, rfl⟩ := ry; exact SeqAt.RcNeAt.list_str z t hl hu'
      | _ => cases fy
    | l es =>
      rw [Is] at hy
      obtain ⟨q, ys, rfl, hs', hys⟩ := hy
      cases ry
      obtain ⟨its', rv', pl', _⟩ := I.list hs'
      have hl' := pl'.isList
      have e1 : its.toArray.size = ds.length := by rw [List.size_toArray, ← rv.length, hxs.len]
      have e2 : its'.toArray.size = es.length := by rw [List.size_toArray, ← rv'.length, hys.len]
      rw [deq]
      by_cases hz : ds.length = es.length
      · have := SeqAt.RcNeAt.lists hl hl' (by omega) hu' (elems (ih50 n) hu I (by omega) hxs hys rv rv')
        rw [e1, all_deqAt hz] at this
        exact this
      · rw [deqL_ne hz]
        exact SeqAt.RcNeAt.lists_lengths hl hl' (by rw [bne_iff_ne]; omega) hu'
    | t es =>
      rw [Is] at hy
      obtain ⟨q, ys, rfl, hs', hys⟩ := hy
      cases ry
      obtain ⟨its', rv', pl', _⟩ := I.tuple hs'
      have hl' : s.heap.IsTuple q its'.toArray := pl'
      rw [show deq (.l ds) (.t es) = false by rw [deq]; all_goals (intros; simp_all)]
      exact SeqAt.RcNeAt.list_tuple hl hl' hu'
  | t ds =>
    rw [dep] at hn
    rw [Is] at hx
    obtain ⟨p', xs, e0, hs, hxs⟩ := hx
    cases e0
    obtain ⟨its, rv, pl, _⟩ := I.tuple hs
    have hl : s.heap.IsTuple p its.toArray := pl
    cases e with
    | f y' =>
      rw [Is] at hy
      obtain ⟨rfl, fy⟩ := hy
      rw [show deq (.t ds) (.f y) = false by rw [deq]; all_goals (intros; simp_all)]
      cases y with
      | non => cases ry; exact SeqAt.RcNeAt.tuple_none hl hu'
      | bl b => cases ry; exact SeqAt.RcNeAt.tuple_bool b hl hu'
      | int i => obtain ⟨t, rfl⟩ := ry; exact SeqAt.RcNeAt.tuple_int i t hl hu'
      | str z => obtain ⟨t, rfl⟩ := ry; exact SeqAt.RcNeAt.tuple_str z t hl hu'
      | _ => cases fy
    | l es =>
      rw [Is] at hy
      obtain ⟨q, ys, rfl, hs', hys⟩ := hy
      cases ry
      obtain ⟨its', rv', pl', _⟩ := I.list hs'
      have hl' := pl'.isList
      rw [show deq (.t ds) (.l es) = false by rw [deq]; all_goals (intros; simp_all)]
      exact SeqAt.RcNeAt.tuple_list hl hl' hu'
    | t es =>
      rw [Is] at hy
      obtain ⟨q, ys, rfl, hs', hys⟩ := hy
      cases ry
      obtain ⟨its', rv', pl', _⟩ := I.tuple hs'
      have hl' : s.heap.IsTuple q its'.toArray := pl'
      have e1 : its.toArray.size = ds.length := by rw [List.size_toArray, ← rv.length, hxs.len]
      have e2 : its'.toArray.size = es.length := by rw [List.size_toArray, ← rv'.length, hys.len]
      rw [deq]
      have := SeqAt.RcNeAt.tuples hl hl' hu' (elems (ih50 n) hu I (by omega) hxs hys rv rv')
      rw [e1, e2] at this
      by_cases hz : ds.length = es.length
      · rw [← hz, Nat.min_self, all_deqAt hz, beq_self_eq_true, Bool.and_true] at this
        exact this
      · rw [deqL_ne hz]
        have : (ds.length == es.length) = false := by simpa using hz
        simp_all
end
section
variable {X : Cx}
theorem op_neD {k : Nat} (hr : Room k X.A) : OpR X (compareOp .NotEq) (rNeD X.K) := by
  intro pins s σ H x y v u Q I rx ry h
  obtain ⟨p, d, e, rfl, hx, hy, hd, q⟩ := h
  cases rx
  have := neAt_D 50 d e (A := X.A) (by omega) (by have := hr.units; omega) I hx hy ry
  exact this X.prog X.w X.xe _ ⟨.bl _, H, I, rfl, q⟩
end
theorem isL_flat {K : PySem.W.Frag} {H : Hp} : ∀ {xs : List V}, xs.all flatV = true → IsL K H xs (xs.map Dt.f)
  | [], _ => by rw [List.map_nil, IsL]
  | x :: r, h => by
    rw [List.all_cons, Bool.and_eq_true] at h
    rw [List.map_cons, IsL]
    exact ⟨x, r, rfl, by rw [Is]; exact ⟨rfl, h.1⟩, isL_flat h.2⟩
theorem is_lst {K : PySem.W.Frag} {H : Hp} {p : Addr} {xs : List V} (h : SqL K H p xs) (f : xs.all flatV = true) : Is K H (.ref p) (.l (xs.map Dt.f)) := by rw [Is]; exact ⟨p, xs, rfl, h, isL_flat f⟩
theorem is_tup {K : PySem.W.Frag} {H : Hp} {p : Addr} {xs : List V} (h : SqT K H p xs) (f : xs.all flatV = true) : Is K H (.ref p) (.t (xs.map Dt.f)) := by rw [Is]; exact ⟨p, xs, rfl, h, isL_flat f⟩
theorem depL_flat : ∀ {xs : List V}, depL (xs.map Dt.f) = 0
  | [] => by rw [List.map_nil, depL]
  | x :: r => by rw [List.map_cons, depL, depL_flat, dep]; rfl
theorem dep_l {xs : List V} : dep (.l (xs.map Dt.f)) = 1 := by rw [dep, depL_flat]
theorem dep_t {xs : List V} : dep (.t (xs.map Dt.f)) = 1 := by rw [dep, depL_flat]
theorem flat_ints (ns : List Int) : (ns.map V.int).all flatV = true := by rw [List.all_map]; simp [flatV]
theorem deqL_ints : ∀ (ns ms : List Int), deqL ((ns.map V.int).map Dt.f) ((ms.map V.int).map Dt.f) = decide (ns = ms)
  | [], [] => by simp [deqL]
  | [], m :: ms => by simp [deqL]
  | n :: ns, [] => by simp [deqL]
  | n :: ns, m :: ms => by
    rw [List.map_cons, List.map_cons, List.map_cons, List.map_cons, deqL, deqL_ints ns ms, deq]
    by_cases h1 : n = m <;> by_cases h2 : ns = ms <;> simp [eqV, h1, h2]
theorem deq_lints (ns ms : List Int) : deq (.l ((ns.map V.int).map Dt.f)) (.l ((ms.map V.int).map Dt.f)) = decide (ns = ms) := by rw [deq, deqL_ints]
theorem eqLI {K : PySem.W.Frag} {H : Hp} {p q : Addr} {ns ms : List Int} {Q : VK} (h1 : SqL K H p (ns.map V.int)) (h2 : SqL K H q (ms.map V.int)) (h : Q (.bl (decide (ns = ms))) H) : rEqD K (.ref p) (.ref q) H Q :=
  ⟨p, _, _, rfl, is_lst h1 (flat_ints _), is_lst h2 (flat_ints _), by rw [dep_l]; decide, by rw [deq_lints]; exact h⟩
def CompIt (J : It) (nt : Nat) (cs : List Nat) (g : TG) (tt : TT) (te : TE) (σ : St) (H1 : Hp) (Q : VK) : Prop := ∀ acc, H1 acc = none →
  ∃ W : Nat → Nat → List V → St → Hp → Prop, (∃ m, W 0 m [] (capSt nt cs σ) (upd H1 acc (.lst []))) ∧ ∀ i m ys σ' H', W i m ys σ' H' → H' acc = some (.lst ys) ∧
    ((J.stop i H' ∧ Q (.ref acc) H') ∨ (J.go i H' ∧ ys.length < sizeLine ∧ ∃ N : List V → St → Hp → Prop, (∀ zs σ2 H2, N zs σ2 H2 → ∃ m', m' < m ∧ W (i + 1) m' zs σ2 H2) ∧
      ∀ x H2, J.yld i H' x H2 → g x σ' H2 fun σ3 H3 => tt σ3 H3 fun b H4 => if b = true then te σ3 H4 fun y H5 => H5 acc = some (.lst ys) ∧ N (ys ++ [y]) σ3 (upd H5 acc (.lst (ys ++ [y]))) else N ys σ3 H4))
section
variable {K : PySem.W.Frag} {σ : St} {H : Hp} {Q : VK} {nt : Nat} {cs : List Nat} {g : TG} {tt : TT} {te : TE} {a : Addr}
theorem w_compL {tl : TE} : tComp (iList K tl) nt cs g tt te σ H Q = (tl σ H fun x H1 => ∃ a, x = .ref a ∧ (∃ xs, SqL K H1 a xs) ∧ CompIt (Itl K a) nt cs g tt te σ H1 Q) := rfl
theorem w_compT {tl : TE} : tComp (iTup K tl) nt cs g tt te σ H Q = (tl σ H fun x H1 => ∃ a, x = .ref a ∧ (∃ xs, SqT K H1 a xs) ∧ CompIt (Itt K a) nt cs g tt te σ H1 Q) := rfl
theorem w_comp1 {ta : TA} : tComp (iRng1 ta) nt cs g tt te σ H Q = (ta σ H fun vs H1 => ∃ j : Int, vs = [.int j] ∧ -(2 ^ 62) ≤ j ∧ j < 2 ^ 62 ∧ CompIt (Itr 0 j.toNat) nt cs g tt te σ H1 Q) := rfl
theorem w_yes {R : Bool → Hp → Prop} : tYes σ H R = R true H := rfl
def capV (cs : List Nat) (σ : St) : St := cs.map fun c => (σ[c]?).join
theorem comp_pure {J : It} {xs : List V} (f : V → Option V) (hz : xs.length ≤ sizeLine)
    (hJ : ∀ H', Same H H' → (∀ i, i < xs.length → J.go i H') ∧ (∀ i x H2, J.yld i H' x H2 → H2 = H' ∧ (i < xs.length → xs[i]? = some x)) ∧ J.stop xs.length H')
    (hb : ∀ x H' (R : Option V → Hp → Prop), x ∈ xs → Same H H' → R (f x) H' → tt (some x :: capV cs σ) H' fun b H4 => if b = true then te (some x :: capV cs σ) H4 fun y H5 => R (some y) H5 else R none H4)
    (hd : ∀ acc, H acc = none → Q (.ref acc) (upd H acc (.lst (xs.filterMap f)))) : CompIt J 1 cs (gName 0) tt te σ H Q := by
  intro acc hn
  have sm : ∀ ys, Same H (upd H acc (.lst ys)) := fun ys => same_new hn _
  refine ⟨fun i m ys σ' H' => m = xs.length - i ∧ i ≤ xs.length ∧ (∃ o, σ' = o :: capV cs σ) ∧ ys = (xs.take i).filterMap f ∧ H' = upd H acc (.lst ys), ⟨_, rfl, Nat.zero_le _, ⟨none, rfl⟩, by simp, rfl⟩, ?_⟩
  rintro i m ys σ' H' ⟨rfl, hi, ⟨o, rfl⟩, hys, rfl⟩
  refine ⟨upd_same, ?_⟩
  have hl : ys.length ≤ i := by
    rw [hys]
    exact Nat.le_trans (List.length_filterMap_le _ _) (by rw [List.length_take]; omega)
  by_cases hlt : i < xs.length
  · refine .inr ⟨(hJ _ (sm ys)).1 i hlt, by omega, fun zs σ2 H2 => (∃ o, σ2 = o :: capV cs σ) ∧ zs = (xs.take (i + 1)).filterMap f ∧ H2 = upd H acc (.lst zs), fun zs σ2 H2 ⟨q1, q2, q3⟩ => ⟨xs.length - (i + 1), by omega, rfl, hlt, q1, q2, q3⟩, fun x H2 y => ?_⟩
    obtain ⟨e, hx⟩ := (hJ _ (sm ys)).2.1 i x H2 y
    have hx := hx hlt
    subst e
    show tt (some x :: capV cs σ) _ _
    have tk : xs.take (i + 1) = xs.take i ++ [x] := by rw [List.take_add_one, hx]; rfl
    refine hb x _ (fun o H5 => match o with | some y => H5 acc = some (.lst ys) ∧ (∃ o, some x :: capV cs σ = o :: capV cs σ) ∧ ys ++ [y] = (xs.take (i + 1)).filterMap f ∧ upd H5 acc (.lst (ys ++ [y])) = upd H acc (.lst (ys ++ [y])) | none => (∃ o, some x :: capV cs σ = o :: capV cs σ) ∧ ys = (xs.take (i + 1)).filterMap f ∧ H5 = upd H acc (.lst ys)) (List.mem_of_getElem? hx) (sm ys) ?_
    cases hf : f x with
    | none =>
      refine ⟨⟨_, rfl⟩, ?_, rfl⟩
      rw [tk, List.filterMap_append, ← hys]
      simp [hf]
    | some y =>
      refine ⟨upd_same, ⟨_, rfl⟩, ?_, upd_upd⟩
      rw [tk, List.filterMap_append, ← hys]
      simp [hf]
  · have e : i = xs.length := by omega
    subst e
    rw [List.take_length] at hys
    subst hys
    exact .inl ⟨(hJ _ (sm _)).2.2, hd acc hn⟩
theorem comp_L {xs : List V} (h : SqL K H a xs) (hz : xs.length ≤ sizeLine) (f : V → Option V)
    (hb : ∀ x H' (R : Option V → Hp → Prop), x ∈ xs → Same H H' → R (f x) H' → tt (some x :: capV cs σ) H' fun b H4 => if b = true then te (some x :: capV cs σ) H4 fun y H5 => R (some y) H5 else R none H4)
    (hd : ∀ acc, H acc = none → Q (.ref acc) (upd H acc (.lst (xs.filterMap f)))) : CompIt (Itl K a) 1 cs (gName 0) tt te σ H Q :=
  comp_pure f hz (fun H' s => by
    have h' := s.seq h
    exact ⟨fun i hi => ⟨xs, xs[i], h', by simp [hi]⟩, fun i x H2 y => ⟨y.1, fun _ => y.2 xs h'⟩, ⟨xs, h', Nat.le_refl _⟩⟩) hb hd
theorem Same.seqT {K : PySem.W.Frag} {H H' : Hp} {a : Addr} {xs : List V} (e : Same H H') (h : SqT K H a xs) : SqT K H' a xs := by
  rcases h with (h | ⟨o, h⟩) | h
  · exact .inl (.inl (e _ _ h))
  · exact .inl (.inr ⟨o, e _ _ h⟩)
  · exact .inr h
theorem comp_T {xs : List V} (h : SqT K H a xs) (hz : xs.length ≤ sizeLine) (f : V → Option V)
    (hb : ∀ x H' (R : Option V → Hp → Prop), x ∈ xs → Same H H' → R (f x) H' → tt (some x :: capV cs σ) H' fun b H4 => if b = true then te (some x :: capV cs σ) H4 fun y H5 => R (some y) H5 else R none H4)
    (hd : ∀ acc, H acc = none → Q (.ref acc) (upd H acc (.lst (xs.filterMap f)))) : CompIt (Itt K a) 1 cs (gName 0) tt te σ H Q :=
  comp_pure f hz (fun H' s => by
    have h' := s.seqT h
    exact ⟨fun i hi => ⟨xs, xs[i], h', by simp [hi]⟩, fun i x H2 y => ⟨y.1, fun _ => y.2 xs h'⟩, ⟨xs, h', Nat.le_refl _⟩⟩) hb hd
def rngV (lo : Int) (n : Nat) : List V := (List.range n).map fun (i : Nat) => V.int (lo + (i : Int))
theorem rngV_get {lo : Int} {n i : Nat} (h : i < n) : (rngV lo n)[i]? = some (.int (lo + i)) := by unfold rngV; rw [List.getElem?_map, List.getElem?_range h]; rfl
theorem rngV_len {lo : Int} {n : Nat} : (rngV lo n).length = n := by unfold rngV; rw [List.length_map, List.length_range]
theorem comp_R {lo : Int} {n : Nat} (hz : n ≤ sizeLine) (f : V → Option V)
    (hb : ∀ x H' (R : Option V → Hp → Prop), x ∈ rngV lo n → Same H H' → R (f x) H' → tt (some x :: capV cs σ) H' fun b H4 => if b = true then te (some x :: capV cs σ) H4 fun y H5 => R (some y) H5 else R none H4)
    (hd : ∀ acc, H acc = none → Q (.ref acc) (upd H acc (.lst ((rngV lo n).filterMap f)))) : CompIt (Itr lo n) 1 cs (gName 0) tt te σ H Q :=
  comp_pure (xs := rngV lo n) f (by rw [rngV_len]; exact hz) (fun H' s => by
    rw [rngV_len]
    exact ⟨fun i hi => hi, fun i x H2 y => ⟨y.1, fun hi => by rw [rngV_get hi, y.2]⟩, Nat.le_refl _⟩) hb hd
end
end L2
set_option Elab.async false
set_option linter.all false
set_option maxRecDepth 100000
set_option maxHeartbeats 1000000
namespace L2
open PySem PySem.Spec PyProof.Rows
section
variable {X : Cx}
theorem vals_bools : ∀ {bs : List Bool} {us : List Value}, Vals (bs.map V.bl) us → us = bs.map Value.bool
  | [], _, h => by cases h; rfl
  | b :: r, _, h => by
    cases h with
    | cons q t =>
      cases q
      rw [vals_bools t]
      rfl
theorem truth_bools {prog : Program} {w : World} {A : Around} {bs : List Bool} : TruthOf prog w A (fun i v => (bs.map Value.bool).toArray[i]? = some v) (fun i => bs.getD i true) := by
  intro i v s Q E h hq
  rw [List.getElem?_toArray, List.getElem?_map] at h
  cases e : bs[i]? with
  | none => rw [e] at h; cases h
  | some b =>
    rw [e] at h
    cases h
    have : bs.getD i true = b := by simp [List.getD, e]
    exact wpAny_truthy_bool (by rw [← this]; exact hq)
theorem all_getD : ∀ (bs : List Bool), (List.range bs.length).all (fun i => bs.getD i true) = bs.all id
  | [] => rfl
  | b :: r => by
    rw [List.length_cons, List.range_succ_eq_map, List.all_cons, List.all_map, List.all_cons]
    have : ((fun i => (b :: r).getD i true) ∘ Nat.succ) = fun i => r.getD i true := by funext i; simp [List.getD]
    rw [this, all_getD r]
    rfl
theorem any_getD : ∀ (bs : List Bool), (List.range bs.length).any (fun i => bs.getD i true) = bs.any id
  | [] => rfl
  | b :: r => by
    rw [List.length_cons, List.range_succ_eq_map, List.any_cons, List.any_map, List.any_cons]
    have : ((fun i => (b :: r).getD i true) ∘ Nat.succ) = fun i => r.getD i true := by funext i; simp [List.getD]
    rw [this, any_getD r]
    rfl
def rAll : List V → Hp → VK → Prop := fun xs H Q => ∃ (p : Addr) (bs : List Bool), xs = [.ref p] ∧ H p = some (.lst (bs.map V.bl)) ∧ Q (.bl (bs.all id)) H
def rAny : List V → Hp → VK → Prop := fun xs H Q => ∃ (p : Addr) (bs : List Bool), xs = [.ref p] ∧ H p = some (.lst (bs.map V.bl)) ∧ Q (.bl (bs.any id)) H
theorem walk_list {pins : List (Addr × Obj)} {σ : St} {H : Hp} {s : Shared} {p : Addr} {xs : List V} (hc : X.calm = true) (I : Inv X pins σ H s) (hp : H p = some (.lst xs)) {Q : Value → Shared → Prop} {E : Value → Shared → Prop}
    (h : ∀ (its : List Value), Vals xs its → ∀ s2 : Shared, s2.heap.IsListIter s.heap.objs.size p 0 ∧ s2.heap.IsList p its.toArray → (∀ b ∈ [s.heap.objs.size, p], b < s2.heap.objs.size) → p ≠ s.heap.objs.size → Walks X.prog X.w X.A.in1 s.heap.objs.size [s.heap.objs.size, p] [s.heap.objs.size] its.toArray.size (fun i v => its.toArray[i]? = some v) (fun i h => h.IsListIter s.heap.objs.size p i ∧ h.IsList p its.toArray) →
      (∀ h' tk, (∀ b o, b ∉ [s.heap.objs.size] → s2.heap.get? b = some o → h'.get? b = some o) → Inv X pins σ H { s2 with heap := h', toks := tk }) → Q (.ref s.heap.objs.size) s2) : wpAny (model X.prog X.w) X.A.in1 (pyIter (.ref p)) Q E s := by
  obtain ⟨its, rv, pl, _⟩ := I.list (SqL.of hp)
  have hlt : p < s.heap.objs.size := I.hok.lt hp
  refine wpAny_pyIter_list pl.isList (h its rv _ ⟨⟨_, Heap.get?_push_size _ rfl, rfl, rfl⟩, pl.isList.push _⟩ (fun b hb => ?_) (Nat.ne_of_lt hlt) (Walks.list (A := X.A.in1) (I.ok.hd hc) _ p (Nat.ne_of_lt hlt) its.toArray) fun h' tk hk => ?_)
  · show b < (s.heap.push _).objs.size
    rw [Heap.size_push]
    rcases List.mem_cons.mp hb with e | e
    · rw [e]; exact Nat.lt_succ_self _
    · have : b = p := by simpa using e
      rw [this]; exact Nat.lt_succ_of_lt hlt
  · exact I.kept (h' := h') (t' := tk) fun b o e => hk b o (by simpa using Nat.ne_of_lt (Heap.lt_size e)) (Heap.get?_push_of_some _ e)
theorem call_all (hc : X.calm = true) : CallR X (.builtin "all") rAll := by
  intro pins s σ H xs us Q I r h
  obtain ⟨p, bs, rfl, hp, q⟩ := h
  obtain ⟨u, rfl, ru⟩ := Vals.one r
  cases ru
  refine call_all_walk (walk_list hc I hp fun its rv s2 st hfp hne W hI => ?_)
  have e := vals_bools rv
  subst e
  refine ⟨_, _, _, _, _, _, _, rfl, W, st, truth_bools, fun h' tk hk => ⟨.bl (bs.all id), H, hI h' tk hk, ?_, q⟩⟩
  have : (bs.map Value.bool).toArray.size = bs.length := by simp
  rw [this, all_getD]
  rfl
theorem call_any (hc : X.calm = true) : CallR X (.builtin "any") rAny := by
  intro pins s σ H xs us Q I r h
  obtain ⟨p, bs, rfl, hp, q⟩ := h
  obtain ⟨u, rfl, ru⟩ := Vals.one r
  cases ru
  refine call_any_walk (walk_list hc I hp fun its rv s2 st hfp hne W hI => ?_)
  have e := vals_bools rv
  subst e
  refine ⟨_, _, _, _, _, _, _, rfl, W, st, truth_bools, fun h' tk hk => ⟨.bl (bs.any id), H, hI h' tk hk, ?_, q⟩⟩
  have : (bs.map Value.bool).toArray.size = bs.length := by simp
  rw [this, any_getD]
  rfl
theorem vals_intItems : ∀ {ns : List Int} {us : List Value}, Vals (ns.map V.int) us → ∃ xs : List (Int × Tok), us = xs.map (fun p => Value.int p.1 p.2) ∧ xs.map (·.1) = ns
  | [], _, h => by cases h; exact ⟨[], rfl, rfl⟩
  | n :: r, _, h => by
    cases h with
    | cons q t =>
      obtain ⟨tk, rfl⟩ := q
      obtain ⟨xs, rfl, e⟩ := vals_intItems t
      exact ⟨(n, tk) :: xs, rfl, by simp [e]⟩
def rBits : V → List V → Hp → VK → Prop := fun x vs H Q => ∃ i, x = .int i ∧ vs = [] ∧ Q (.int (Builtin.Int.intBits i : Nat)) H
theorem mt_bits : MtR X "int.bit_length" rBits := by
  intro pins s σ H x xs v us Q I rx rs h
  obtain ⟨i, rfl, rfl, q⟩ := h
  obtain ⟨t, rfl⟩ := rx
  cases rs
  exact call_gives slot_int_bit_length (typeIs_int s i t) entry_int_bit_length (args_int_bit_length _) (AutoIntG2.int_bit_length_int_0 i t) ⟨.int _, H, I.tok _, ⟨_, rfl⟩, q⟩
theorem w_rBits {i : Int} {H : Hp} {Q : VK} : rBits (.int i) [] H Q = Q (.int (Builtin.Int.intBits i : Nat)) H := propext ⟨fun ⟨j, e, _, q⟩ => by cases e; exact q, fun q => ⟨i, rfl, rfl, q⟩⟩
theorem w_tyInt {K : PySem.W.Frag} {i : Int} {H : Hp} : tyV K "int" (.int i) H = True := eq_true (by first | exact rfl | (unfold tyV; rfl) | (unfold tyV; simp))
end
section
variable {K : PySem.W.Frag} {σ : St} {H : Hp} {Q : VK}
theorem w_bm {T : String} {r : V → List V → Hp → VK → Prop} {to : TE} {t : TA} : tBM K T r to t σ H Q = (to σ H fun x H1 => tyV K T x H1 ∧ t σ H1 fun xs H2 => r x xs H2 Q) := rfl
theorem w_bm0 {T : String} {r : V → List V → Hp → VK → Prop} {to : TE} : tBM0 K T r to σ H Q = (to σ H fun x H1 => tyV K T x H1 ∧ r x [] H1 Q) := rfl
theorem w_append {l : Addr} {y : V} : rAppend (.ref l) [y] H Q = ∃ xs, H l = some (.lst xs) ∧ xs.length < sizeLine ∧ Q .non (upd H l (.lst (xs ++ [y]))) :=
  propext ⟨fun ⟨l', xs, y', e1, e2, h, z, q⟩ => by cases e1; cases e2; exact ⟨xs, h, z, q⟩, fun ⟨xs, h, z, q⟩ => ⟨l, xs, y, rfl, rfl, h, z, q⟩⟩
theorem ty_list {l : Addr} {xs : List V} (h : H l = some (.lst xs)) : tyV K "list" (.ref l) H := by
  first | exact .inl ⟨rfl, _, SqL.of h⟩ | (unfold tyV; exact .inl ⟨rfl, _, SqL.of h⟩)
end
end L2
set_option Elab.async false
set_option linter.all false
set_option maxRecDepth 100000
namespace L2
open PySem PySem.Spec PyProof.Rows PySem.W
theorem bits_pow (k : Nat) : Builtin.Int.intBits ((2 : Int) ^ k) = k + 1 := by
  unfold Builtin.Int.intBits
  have p := pow_pos2 k
  rw [if_neg (by simp; omega), Int.natAbs_pow]
  show Nat.log2 (2 ^ k) + 1 = k + 1
  rw [Nat.log2_two_pow]
theorem odd_part : ∀ (n : Nat), 0 < n → ∃ m k, n = (2 * m + 1) * 2 ^ k := by
  intro n
  induction n using Nat.strongRecOn with
  | ind n ih =>
    intro h
    by_cases e : n % 2 = 1
    · exact ⟨n / 2, 0, by simp; omega⟩
    · obtain ⟨m, k, hk⟩ := ih (n / 2) (by omega) (by omega)
      exact ⟨m, k + 1, by rw [Nat.pow_succ, ← Nat.mul_assoc, ← hk]; omega⟩
def absI (n : Int) : Int := if n < 0 then -n else n
def lowK (n : Int) : Int := (Builtin.Int.intBits (Builtin.bitAnd (absI n) (-absI n)) : Int) - 1
def coreL (n : Int) : List Int := if n = 0 then [0, 0, 0] else [absI n / 2 ^ (lowK n).toNat, lowK n, if 0 < n then 1 else -1]
theorem core_fact {n : Int} (h : n ≠ 0) : ∃ (m k : Nat), absI n = (2 * m + 1) * 2 ^ k ∧ coreL n = [2 * (m : Int) + 1, (k : Int), if 0 < n then 1 else -1] := by
  obtain ⟨m, k, e⟩ := odd_part n.natAbs (by omega)
  have ea : absI n = ((n.natAbs : Nat) : Int) := by unfold absI; split <;> omega
  have e1 : absI n = (2 * m + 1) * 2 ^ k := by rw [ea, e, Int.natCast_mul, Int.natCast_pow]; rfl
  refine ⟨m, k, e1, ?_⟩
  have e2 : absI n = 2 ^ k * (2 * (m : Int) + 1) := by rw [e1, Int.mul_comm]
  have e3 : lowK n = k := by
    unfold lowK
    rw [e2, kbt_low, bits_pow]
    omega
  unfold coreL
  rw [if_neg h, e3, Int.toNat_natCast, e1, Int.mul_ediv_cancel _ (Int.ne_of_gt (pow_pos2 k))]
end L2
set_option Elab.async false
set_option linter.all false
set_option maxRecDepth 100000
namespace L2
open PySem PySem.Spec PyProof.Rows
def gTupM (n : Nat) (t : TGs) : TG := fun v σ H Q => ∃ a xs, v = .ref a ∧ H a = some (.tup xs) ∧ xs.length = n ∧ t xs σ H Q
theorem pg_tupM {X : Cx} {es : List Expr} {k : Nat} {t : TGs} {pos : Pos} (n : Nat) (hc : X.calm = true) (h : PGs X es t) (hn : (assignEach es X.env).length = n := by rfl) (hst : (assignEach es X.env).findIdx? (·.1) = none := by rfl) : PG X (.Tuple es k pos) (gTupM n t) := by
  intro pins s σ H v u Q I r hw
  obtain ⟨a, xs, e1, hq, hl, hw⟩ := hw
  exact pg_tup (X := X) (n := n) hc h hn hst pins s σ H v u Q I r ⟨a, xs, e1, SqT.of hq, hl, hw⟩
section
variable {K : PySem.W.Frag} {σ : St} {H : Hp} {Q : VK} {R : St → Hp → Prop}
theorem w_gTupM {n : Nat} {t : TGs} {a : Addr} : gTupM n t (.ref a) σ H R = ∃ xs, H a = some (.tup xs) ∧ xs.length = n ∧ t xs σ H R :=
  propext ⟨fun ⟨a', xs, e, h, l, q⟩ => by cases e; exact ⟨xs, h, l, q⟩, fun ⟨xs, h, l, q⟩ => ⟨a, xs, rfl, h, l, q⟩⟩
theorem w_gCons {t : TG} {u : TGs} {v : V} {r : List V} : gCons t u (v :: r) σ H R = t v σ H fun σ' H' => u r σ' H' R :=
  propext ⟨fun ⟨v', r', e, q⟩ => by cases e; exact q, fun q => ⟨v, r, rfl, q⟩⟩
theorem w_gNil : gNil [] σ H R = R σ H := propext ⟨fun ⟨_, q⟩ => q, fun q => ⟨rfl, q⟩⟩
end
end L2
set_option Elab.async false
set_option linter.all false
set_option maxRecDepth 100000
namespace L2
open PySem PySem.Spec PyProof.Rows
def rDG : R2 := fun x y H Q => ∃ a k, x = .ref a ∧ y = kV k ∧ ∃ kvs, H a = some (.dK kvs) ∧ ∃ v, valV kvs k = some v ∧ Q v H
def rDP : V → V → V → Hp → (Hp → Prop) → Prop := fun x y v H R => ∃ a k, x = .ref a ∧ y = kV k ∧ ∃ kvs, H a = some (.dK kvs) ∧ kvs.length < sizeLine ∧ R (upd H a (.dK (putK kvs k v)))
def sDP (td ty tv : TE) : TS := fun D σ H => tv σ H fun v H1 => td σ H1 fun x H2 => ty σ H2 fun y H3 => rDP x y v H3 fun H4 => D.nx σ H4
def rDI (neg : Bool) : R2 := fun y x H Q => ∃ a k, x = .ref a ∧ y = kV k ∧ ∃ kvs, H a = some (.dK kvs) ∧ Q (.bl (if neg then !(valV kvs k).isSome else (valV kvs k).isSome)) H
section
variable {X : Cx} {o i e value : Expr} {pos pos' tpos : Pos} {td ty tv : TE}
end
section
variable {σ : St} {H : Hp} {Q : VK} {D : Ends} {a : Addr} {v : V} {R : Hp → Prop}
theorem kV_s {k : Key} {x : Str} : (V.str x = kV k) = (k = .inr x) := propext ⟨fun e => by cases k <;> cases e; rfl, fun e => by subst e; rfl⟩
theorem kV_i {k : Key} {x : Int} : (V.int x = kV k) = (k = .inl x) := propext ⟨fun e => by cases k <;> cases e; rfl, fun e => by subst e; rfl⟩
theorem w_dgS {x : Str} : rDG (.ref a) (.str x) H Q = ∃ kvs, H a = some (.dK kvs) ∧ ∃ v, valV kvs (.inr x) = some v ∧ Q v H :=
  propext ⟨fun ⟨a', k, e1, e2, q⟩ => by cases e1; rw [kV_s] at e2; subst e2; exact q, fun q => ⟨a, .inr x, rfl, rfl, q⟩⟩
theorem w_dgI {x : Int} : rDG (.ref a) (.int x) H Q = ∃ kvs, H a = some (.dK kvs) ∧ ∃ v, valV kvs (.inl x) = some v ∧ Q v H :=
  propext ⟨fun ⟨a', k, e1, e2, q⟩ => by cases e1; rw [kV_i] at e2; subst e2; exact q, fun q => ⟨a, .inl x, rfl, rfl, q⟩⟩
theorem w_sDP {td ty tv : TE} : sDP td ty tv D σ H = (tv σ H fun v H1 => td σ H1 fun x H2 => ty σ H2 fun y H3 => rDP x y v H3 fun H4 => D.nx σ H4) := rfl
theorem w_dpS {x : Str} : rDP (.ref a) (.str x) v H R = ∃ kvs, H a = some (.dK kvs) ∧ kvs.length < sizeLine ∧ R (upd H a (.dK (putK kvs (.inr x) v))) :=
  propext ⟨fun ⟨a', k, e1, e2, q⟩ => by cases e1; rw [kV_s] at e2; subst e2; exact q, fun q => ⟨a, .inr x, rfl, rfl, q⟩⟩
theorem w_dpI {x : Int} : rDP (.ref a) (.int x) v H R = ∃ kvs, H a = some (.dK kvs) ∧ kvs.length < sizeLine ∧ R (upd H a (.dK (putK kvs (.inl x) v))) :=
  propext ⟨fun ⟨a', k, e1, e2, q⟩ => by cases e1; rw [kV_i] at e2; subst e2; exact q, fun q => ⟨a, .inl x, rfl, rfl, q⟩⟩
theorem w_dII {neg : Bool} {x : Int} : rDI neg (.int x) (.ref a) H Q = ∃ kvs, H a = some (.dK kvs) ∧ Q (.bl (if neg then !(valV kvs (.inl x)).isSome else (valV kvs (.inl x)).isSome)) H :=
  propext ⟨fun ⟨a', k, e1, e2, q⟩ => by cases e1; rw [kV_i] at e2; subst e2; exact q, fun q => ⟨a, .inl x, rfl, rfl, q⟩⟩
theorem w_disp {trs : List (TE × TE)} : tDisp trs σ H Q = ∀ p, H p = none → tPairs trs σ (upd H p (.dK [])) fun ps H2 => H2 p = some (.dK []) ∧ ∃ kvs : List (Key × V), ps = kvs.map (fun kv => (kV kv.1, kv.2)) ∧ kvs.length ≤ 15 ∧ Q (.ref p) (upd H2 p (.dK (mergeK [] kvs))) := rfl
end
def penKV (a : Addr) (at_ l : Int) : List (Key × V) := [(.inr "script", .ref a), (.inr "at", .int at_), (.inr "left", .int l)]
theorem pen_s {a : Addr} {t l : Int} : valV (penKV a t l) (.inr "script") = some (.ref a) := by unfold penKV; rw [valV_pos rfl]
theorem key_sa : ¬ (Sum.inr "script" : Key) = (Sum.inr "at" : Key) := by decide
theorem key_sl : ¬ (Sum.inr "script" : Key) = (Sum.inr "left" : Key) := by decide
theorem key_al : ¬ (Sum.inr "at" : Key) = (Sum.inr "left" : Key) := by decide
theorem pen_a {a : Addr} {t l : Int} : valV (penKV a t l) (.inr "at") = some (.int t) := by unfold penKV; rw [valV_neg key_sa, valV_pos rfl]
theorem pen_l {a : Addr} {t l : Int} : valV (penKV a t l) (.inr "left") = some (.int l) := by unfold penKV; rw [valV_neg key_sl, valV_neg key_al, valV_pos rfl]
theorem pen_len {a : Addr} {t l : Int} : ((penKV a t l).length < sizeLine) = True := eq_true (Nat.lt_of_lt_of_le (by decide : 3 < 1000) (le_size (by decide)))
theorem pen_pa {a : Addr} {t l x : Int} : putK (penKV a t l) (.inr "at") (.int x) = penKV a x l := by
  unfold putK
  rw [valV_any, pen_a]
  rfl
theorem pen_pl {a : Addr} {t l x : Int} : putK (penKV a t l) (.inr "left") (.int x) = penKV a t x := by
  unfold putK
  rw [valV_any, pen_l]
  rfl
end L2
set_option Elab.async false
set_option linter.all false
set_option maxRecDepth 100000
namespace L2
open PySem PySem.Spec PyProof.Rows
def Itv (K : PySem.W.Frag) (a : Addr) (n : Nat) : It :=
  ⟨fun i H => i < n ∧ ∃ xs, SqL K H a xs ∧ xs.length = n, fun i H x H' => H' = H ∧ ∀ xs, SqL K H a xs → xs.length = n → xs[n - 1 - i]? = some x, fun i H => i = n⟩
theorem turn_rev {P : Program} {w : World} {K : PySem.W.Frag} {tg : Expr} (a it : Addr) (n : Nat) : Turn P w K tg (Itv K a n) [it] it (fun i h => i ≤ n ∧ h.IsRevIter it a ((n : Int) - 1 - (i : Int))) where
  mem := by simp
  obj := fun i h st b hb => by
    have e : b = it := by simpa using hb
    subst e
    obtain ⟨_, o, e, c, d⟩ := st
    exact ⟨o, e, fun v z => by rw [d] at z; cases z⟩
  keep := fun i h h' st k => ⟨st.1, st.2.at fun o e => k it (by simp) o e⟩
  item := by
    intro X hP hw hK hc i pins s σ H E I hf st hg
    subst hP hw hK
    obtain ⟨hi, xs, hq, hn⟩ := hg
    obtain ⟨its, rv, p, hz⟩ := I.list hq
    have hlt : n - 1 - i < xs.length := by omega
    obtain ⟨u, hu, ru⟩ := rv.get (List.getElem?_eq_getElem hlt)
    obtain ⟨f0, f1, f2, f3, f4, f5⟩ := hf it (by simp)
    have e1 : (n : Int) - 1 - (i : Int) = ((n - 1 - i : Nat) : Int) := by omega
    have st2 := st.2
    rw [e1] at st2
    refine wpAny_pyNext_rev_item st2 p.isList (x := u) (by simpa using hu) fun h' st' sb => ?_
    have I1 : Inv X pins σ H { s with heap := h' } := I.turned (t' := s.toks) (fun b o hb e => (sb.2 b hb).trans e) f0 f1 f3 f4 f5
    obtain ⟨o, e, c, d⟩ := id st'
    have e2 : ((n - 1 - i : Nat) : Int) - 1 = (n : Int) - 1 - ((i + 1 : Nat) : Int) := by omega
    rw [e2] at st'
    exact ⟨u, rfl, go_of (s := { s with heap := h' }) e c d (by decide) ⟨xs[n - 1 - i], H, I1, ru, ⟨rfl, fun ys hy _ => by rw [I.list_inj hy hq]; exact List.getElem?_eq_getElem hlt⟩, ⟨hi, st'⟩, fun b hb => (hf b hb).1⟩⟩
  done := by
    intro X hP hw hK hc i pins s σ H E I hf st hg
    subst hP hw hK
    obtain ⟨f0, f1, f2, f3, f4, f5⟩ := hf it (by simp)
    have hg : i = n := hg
    have st2 := st.2
    rw [show (n : Int) - 1 - (i : Int) = -1 by omega] at st2
    exact wpAny_pyNext_rev_end (I.ok.hd hc) st2 fun h' eb => ⟨rfl, I.turned (t' := s.toks) (fun b o hb e => eb b o hb e) f0 f1 f3 f4 f5⟩
  self := fun _ _ _ _ _ st h => wpAny_pyIter_revIter st.2 h
def iRev (K : PySem.W.Frag) (ta : TA) : TI := fun σ H R => ta σ H fun vs H1 => ∃ a xs, vs = [.ref a] ∧ SqL K H1 a xs ∧ R (Itv K a xs.length) H1
theorem pi_rev {X : Cx} {tg a : Expr} {ta : TA} {p pos : Pos} (hg : Gl X "reversed") (hm : X.mg "reversed" = none) (ha : PA X [a] ta) (hs : starEach [a] X.env = [(false, eval a X.env)] := by rfl) : PI X tg (.Call (.Name "reversed" p) [a] [] pos) (iRev X.K ta) := by
  intro pins s σ H R I h
  refine Call_ (ld_blt I hg hm bo_reversed (PyProof.Rows.callWith_type1 (thn (ha pos pins s σ H _ I h) fun us s1 ⟨vs, H1, I1, r1, q1⟩ => ?_) hs rfl))
  obtain ⟨l, xs, e, hq, q⟩ := q1
  subst e
  obtain ⟨u, rfl, ru⟩ := Vals.one r1
  cases ru
  obtain ⟨its, rv, pl, hz⟩ := I1.list hq
  have hlen : its.toArray.size = xs.length := by rw [List.size_toArray, rv.length]
  refine call_reversed_list pl.isList ?_
  rw [hlen]
  have I2 : Inv X pins σ H1 { s1 with heap := s1.heap.push (revObj l ((xs.length : Int) - 1)) } := I1.kept (t' := s1.toks) fun b o e => Heap.get?_push_of_some _ e
  have st : (s1.heap.push (revObj l ((xs.length : Int) - 1))).IsRevIter s1.heap.objs.size l ((xs.length : Int) - 1 - ((0 : Nat) : Int)) := by
    rw [show (xs.length : Int) - 1 - ((0 : Nat) : Int) = (xs.length : Int) - 1 by omega]
    exact ⟨_, Heap.get?_push_size _ rfl, rfl, rfl⟩
  refine wpAny_pyIter_revIter st ?_
  refine ⟨s1.heap.objs.size, [s1.heap.objs.size], _, _, H1, rfl, I2, turn_rev l _ xs.length, ⟨Nat.zero_le _, st⟩, fun b hb => ?_, q⟩
  have e : b = s1.heap.objs.size := by simpa using hb
  subst e
  exact I1.fpOk (Nat.le_refl _) (I1.hok.fresh (Nat.le_refl _))
def ForV (K : PySem.W.Frag) (a : Addr) (n : Nat) (g : TG) (tb : TS) (D : Ends) (σ : St) (H : Hp) : Prop := ∃ W : Nat → Nat → St → Hp → Prop, (∃ m, W 0 m σ H) ∧ ∀ i m σ H, W i m σ H →
  ((Itv K a n).stop i H ∧ D.nx σ H) ∨ ((Itv K a n).go i H ∧ ∃ N : St → Hp → Prop, (∀ σ' H', N σ' H' → ∃ m', m' < m ∧ W (i + 1) m' σ' H') ∧ ∀ x H', (Itv K a n).yld i H x H' → g x σ H' fun σ2 H2 => tb { D with nx := N, ct := N, bk := D.nx } σ2 H2)
section
variable {σ : St} {H : Hp} {D : Ends} {g : TG} {tb : TS} {K : PySem.W.Frag} {a : Addr}
theorem w_forV {ta : TA} : tFor (iRev K ta) g tb D σ H = (ta σ H fun vs H1 => ∃ a xs, vs = [.ref a] ∧ SqL K H1 a xs ∧ ForV K a xs.length g tb D σ H1) := rfl
theorem forV {xs : List V} (Pv : Nat → St → Hp → Prop) (h0 : Pv 0 σ H) (hl : ∀ i σ H, i ≤ xs.length → Pv i σ H → SqL K H a xs)
    (hs : ∀ i x σ H (N : St → Hp → Prop), xs.reverse[i]? = some x → Pv i σ H → (∀ σ' H', Pv (i + 1) σ' H' → N σ' H') → g x σ H fun σ2 H2 => tb { D with nx := N, ct := N, bk := D.nx } σ2 H2) (hd : ∀ σ H, Pv xs.length σ H → D.nx σ H) : ForV K a xs.length g tb D σ H := by
  refine ⟨fun i m σ H => m = xs.length - i ∧ i ≤ xs.length ∧ Pv i σ H, ⟨xs.length, by simp, Nat.zero_le _, h0⟩, ?_⟩
  rintro i m σ H ⟨rfl, hi, p⟩
  have q := hl i σ H hi p
  by_cases hlt : i < xs.length
  · refine .inr ⟨⟨hlt, xs, q, rfl⟩, Pv (i + 1), fun σ' H' p' => ⟨xs.length - (i + 1), by omega, rfl, hlt, p'⟩, fun x H' y => ?_⟩
    obtain ⟨e, y⟩ := y
    subst e
    refine hs i x σ _ (Pv (i + 1)) ?_ p fun _ _ z => z
    rw [List.getElem?_reverse hlt]
    exact y xs q rfl
  · have e : i = xs.length := by omega
    subst e
    exact .inl ⟨rfl, hd σ H p⟩
end
end L2
set_option Elab.async false
set_option linter.all false
set_option maxRecDepth 100000
namespace L2
open PySem
def fs (n : Int) : Int := if n % 2 = 0 then 0 else 2 - n % 4
def nafF : Nat → Int → List Int
  | 0, _ => []
  | k + 1, n => if n = 0 then [] else fs n :: nafF k ((n - fs n) / 2)
def naf (n : Int) : List Int := nafF n.natAbs n
theorem fs_cases (n : Int) : (fs n = 0 ∧ n % 2 = 0) ∨ (fs n = 1 ∧ n % 4 = 1) ∨ (fs n = -1 ∧ n % 4 = 3) := by
  unfold fs
  split <;> omega
theorem fs_lt {n : Int} (h : n ≠ 0) : ((n - fs n) / 2).natAbs < n.natAbs := by
  rcases fs_cases n with ⟨e, _⟩ | ⟨e, _⟩ | ⟨e, _⟩ <;> rw [e] <;> omega
theorem nafF_fuel : ∀ (k : Nat) (n : Int), n.natAbs ≤ k → nafF k n = nafF n.natAbs n := by
  intro k
  induction k using Nat.strongRecOn with
  | ind k ih =>
    intro n h
    by_cases z : n = 0
    · subst z
      cases k <;> simp [nafF]
    · obtain ⟨k', rfl⟩ : ∃ k', k = k' + 1 := ⟨k - 1, by omega⟩
      obtain ⟨j, hj⟩ : ∃ j, n.natAbs = j + 1 := ⟨n.natAbs - 1, by omega⟩
      have lt := fs_lt z
      rw [hj, nafF, nafF, if_neg z, if_neg z, ih k' (by omega) _ (by omega)]
      by_cases e : k' = j
      · subst e
        rw [ih k' (by omega) _ (by omega)]
      · rw [ih j (by omega) _ (by omega)]
theorem naf_step {n : Int} (h : n ≠ 0) : naf n = fs n :: naf ((n - fs n) / 2) := by
  have lt := fs_lt h
  obtain ⟨j, hj⟩ : ∃ j, n.natAbs = j + 1 := ⟨n.natAbs - 1, by omega⟩
  unfold naf
  rw [hj, nafF, if_neg h, nafF_fuel j _ (by omega)]
theorem naf_ind {p : Int → Prop} (h0 : p 0) (hs : ∀ n, n ≠ 0 → p ((n - fs n) / 2) → p n) : ∀ n, p n := by
  have all : ∀ k (n : Int), n.natAbs ≤ k → p n := by
    intro k
    induction k with
    | zero => intro n h; have : n = 0 := by omega
              subst this; exact h0
    | succ k ih =>
      intro n h
      by_cases z : n = 0
      · subst z; exact h0
      · exact hs n z (ih _ (by have := fs_lt z; omega))
  exact fun n => all n.natAbs n (Nat.le_refl _)
def val : List Int → Int
  | [] => 0
  | d :: r => d + 2 * val r
theorem fs_neg (n : Int) : fs (-n) = -fs n := by
  rcases fs_cases n with ⟨e, _⟩ | ⟨e, _⟩ | ⟨e, _⟩ <;> rcases fs_cases (-n) with ⟨e', _⟩ | ⟨e', _⟩ | ⟨e', _⟩ <;> rw [e, e'] <;> omega
theorem naf_neg : ∀ n, naf (-n) = (naf n).map fun d => 0 - d := naf_ind rfl fun n h ih => by
  rw [naf_step h, naf_step (n := -n) (by omega), List.map_cons, ← ih, fs_neg]
  have e : (-n - -fs n) / 2 = -((n - fs n) / 2) := by
    rcases fs_cases n with ⟨e, _⟩ | ⟨e, _⟩ | ⟨e, _⟩ <;> rw [e] <;> omega
  rw [e, Int.zero_sub]
end L2
set_option Elab.async false
set_option linter.all false
set_option maxRecDepth 100000
namespace L2
open PySem PySem.Spec PyProof.Rows
def wt (ds : List Int) : Nat := (ds.filter fun d => decide (d ≠ 0)).length
def tWhl (c : TT) (tb : TS) : TS := fun D σ H => ∃ W : Nat → St → Hp → Prop, (∃ m, W m σ H) ∧ ∀ m σ H, W m σ H → ∀ N : St → Hp → Prop, (∀ m' σ' H', m' < m → W m' σ' H' → N σ' H') →
  c σ H fun b H1 => if b = true then tb { D with nx := N, ct := N, bk := D.nx } σ H1 else D.nx σ H1
theorem ps_whl {X : Cx} {pos : Pos} {c : Expr} {body : List Stmt} {tc : TT} {tb : TS} (hp : PassesOwn (model X.prog X.w) X.A X.env X.xe) (hc : PT X c tc) (hb : PSs X body tb) : PS X (.While c body [] pos) (tWhl tc tb) := by
  intro pins s σ H D I h
  obtain ⟨W, ⟨m0, w0⟩, turn⟩ := h
  refine wpAny_While (codeAny_whileLoop (fun n s' => ∃ σ' H', Inv X pins σ' H' s' ∧ W n σ' H') ?_ m0 ⟨σ, H, I, w0⟩)
  rintro n s1 ⟨σ1, H1, I1, w1⟩
  refine wpAny_passesOwn hp (thn (hc pins s1 σ1 H1 _ I1 (turn n σ1 H1 w1 (fun σ' H' => ∃ m', m' < n ∧ W m' σ' H') fun m' _ _ l z => ⟨m', l, z⟩)) fun b s2 ⟨H2, I2, q2⟩ => ?_)
  cases b with
  | true =>
    rw [if_pos rfl] at q2 ⊢
    refine wpAny_passesOwn hp (thn (hb pins s2 σ1 H2 _ I2 q2) fun f s3 q3 => ?_)
    cases f with
    | next =>
      obtain ⟨σ3, H3, I3, m', hm, w3⟩ := q3
      exact ⟨m', hm, σ3, H3, I3, w3⟩
    | cont =>
      obtain ⟨σ3, H3, I3, m', hm, w3⟩ := q3
      exact ⟨m', hm, σ3, H3, I3, w3⟩
    | brk => exact q3
    | ret v => exact q3
  | false =>
    rw [if_neg Bool.false_ne_true] at q2 ⊢
    exact wpAny_execs_nil ⟨σ1, H2, I2, q2⟩
theorem whl {c : TT} {tb : TS} {D : Ends} {σ : St} {H : Hp} (Pv : Nat → St → Hp → Prop) (m : Nat) (h0 : Pv m σ H)
    (hs : ∀ m σ H (N : St → Hp → Prop), Pv m σ H → (∀ m' σ' H', m' < m → Pv m' σ' H' → N σ' H') → c σ H fun b H1 => if b = true then tb { D with nx := N, ct := N, bk := D.nx } σ H1 else D.nx σ H1) : tWhl c tb D σ H :=
  ⟨Pv, ⟨m, h0⟩, fun m σ H p N hN => hs m σ H N p hN⟩
theorem filterMap_some {α β : Type} (f : α → β) (xs : List α) : xs.filterMap (fun x => some (f x)) = xs.map f := by
  induction xs with
  | nil => rfl
  | cons x r ih => rw [List.filterMap_cons, ih]; rfl
end L2
set_option Elab.async false
set_option linter.all false
set_option maxRecDepth 100000
namespace L2
open PySem
theorem le_big {n : Nat} (h : n ≤ 100000) : n ≤ sizeLine := Nat.le_trans h (by decide)
theorem same_upd {H H' : Hp} {r : Addr} {o : HO} (h : H r = none) (s : Same H H') : Same H (upd H' r o) := fun b u q => by rw [upd_ne (ne_of_none q h)]; exact s b u q
def shV (n s : Int) : V := if 0 ≤ s then .int (n * 2 ^ s.toNat) else if n / 2 ^ (-s).toNat * 2 ^ (-s).toNat = n then .int (n / 2 ^ (-s).toNat) else .non
def spShifted : Sp := fun vs H Q _ => ∃ n s : Int, vs = [.int n, .int s] ∧ -4000 ≤ s ∧ s ≤ 4000 ∧ n.natAbs < 2 ^ 10000 ∧ Q (shV n s) H
def On2 (vs : List V) (P : Int → Int → Prop) : Prop := ∃ i j, vs = [.int i, .int j] ∧ P i j
theorem w_On2 {i j : Int} {P : Int → Int → Prop} : On2 [.int i, .int j] P = P i j := propext ⟨fun ⟨i', j', e, q⟩ => by cases e; exact q, fun q => ⟨i, j, rfl, q⟩⟩
section
variable {σ : St} {H : Hp} {D : Ends} {g : TG} {tb : TS} {K : PySem.W.Frag} {Q : VK} {nt : Nat} {cs : List Nat} {tt : TT} {te : TE}
theorem w_for2b {ta : TA} : tFor (iRng2 ta) g tb D σ H = (ta σ H fun vs H1 => On2 vs fun i j => (-(2 ^ 62) ≤ i ∧ i < 2 ^ 62 ∧ -(2 ^ 62) ≤ j ∧ j < 2 ^ 62) ∧ ForR i (j - i).toNat g tb D σ H1) := rfl
theorem w_comp2b {ta : TA} : tComp (iRng2 ta) nt cs g tt te σ H Q = (ta σ H fun vs H1 => On2 vs fun i j => (-(2 ^ 62) ≤ i ∧ i < 2 ^ 62 ∧ -(2 ^ 62) ≤ j ∧ j < 2 ^ 62) ∧ CompIt (Itr i (j - i).toNat) nt cs g tt te σ H1 Q) := rfl
end
end L2
set_option Elab.async false
set_option linter.all false
set_option maxRecDepth 100000
namespace L2
open PySem
abbrev wn (n : Int) : Nat := wt (naf n)
theorem wt_cons (d : Int) (r : List Int) : wt (d :: r) = (if d = 0 then 0 else 1) + wt r := by
  unfold wt
  rw [List.filter_cons]
  by_cases h : d = 0
  · simp [h]
  · simp [h]; omega
theorem wn_step (n : Int) : wn n = (if fs n = 0 then 0 else 1) + wn ((n - fs n) / 2) := by
  by_cases h : n = 0
  · subst h; rfl
  · show wt (naf n) = _
    rw [naf_step h, wt_cons]
theorem wt_neg : ∀ ds : List Int, wt (ds.map fun d => 0 - d) = wt ds
  | [] => rfl
  | d :: r => by
    rw [List.map_cons, wt_cons, wt_cons, wt_neg r]
    have : (0 - d = 0) ↔ (d = 0) := by omega
    simp only [this]
theorem wn_neg (n : Int) : wn (-n) = wn n := by show wt (naf (-n)) = _; rw [naf_neg, wt_neg]
theorem wn_dbl (n : Int) : wn (2 * n) = wn n := by
  rw [wn_step (2 * n)]
  have e : fs (2 * n) = 0 := by unfold fs; rw [if_pos (by omega)]
  rw [e, if_pos rfl, Nat.zero_add]
  congr 2
  omega
theorem w_neB {a b : Bool} {H : Hp} {Q : VK} : rNe (.bl a) (.bl b) H Q = Q (.bl (!decide (a = b))) H :=
  propext (by
    have e : decide (V.bl a = V.bl b) = decide (a = b) := by by_cases h : a = b <;> simp [h]
    unfold rNe; rw [e]; exact ⟨fun h => h.2, fun h => ⟨rfl, h⟩⟩)
theorem w_eqB {a b : Bool} {H : Hp} {Q : VK} : rEq (.bl a) (.bl b) H Q = Q (.bl (decide (a = b))) H :=
  propext (by
    have e : decide (V.bl a = V.bl b) = decide (a = b) := by by_cases h : a = b <;> simp [h]
    unfold rEq; rw [e]; exact ⟨fun h => h.2, fun h => ⟨rfl, h⟩⟩)
end L2
set_option Elab.async false
set_option linter.all false
set_option maxRecDepth 100000
namespace L2
open PySem
abbrev SS := List (Int × Int) × List Int
def stp (m : Int) (s : SS) (o : Int) : SS := if (s.1.lookup o).isSome = false ∧ (if o < 0 then -o else o) < 200 then (s.1 ++ [(o, m)], s.2 ++ [o]) else s
def kin (m n : Int) (s : SS) (k : Nat) : SS := stp m (stp m s (n + 1 * 2 ^ k)) (n - 1 * 2 ^ k)
def nin (m : Int) (s : SS) (n : Int) : SS := (List.range 8).foldl (kin m n) s
end L2
set_option Elab.async false
set_option linter.all false
set_option maxRecDepth 100000
set_option maxHeartbeats 1000000
namespace L2
open PySem PySem.Spec PyProof.Rows
section
variable {prog : Program} {w : World} {A : Around} {R : Result → Shared → Prop} {I S : Addr} {fp wr : List Addr} {n : Nat} {P : Nat → Value → Prop} {St : Nat → Heap → Prop} {bt : Nat → Nat → Bool} {d : Value}
end
section
variable {prog : Program} {w : World} {A : Around} {E : Value → Shared → Prop} {s : Shared} {d x : Value}
end
def mz : List Int → Int
  | [] => 0
  | x :: r => if mz r < x then x else mz r
section
variable {X : Cx} {e : Expr} {es : List Expr} {kws : List Keyword} {t tk : TA} {p pos : Pos}
theorem at_int {xs : List (Int × Tok)} {ns : List Int} (e : xs.map (·.1) = ns) (i : Nat) (v : Value) (h : (xs.map fun p => Value.int p.1 p.2).toArray[i]? = some v) : ∃ t, v = .int (ns.getD i 0) t := by
  rw [List.getElem?_toArray, List.getElem?_map] at h
  cases hx : xs[i]? with
  | none => rw [hx] at h; cases h
  | some q =>
    rw [hx] at h
    cases h
    refine ⟨q.2, ?_⟩
    have : ns[i]? = some q.1 := by rw [← e, List.getElem?_map, hx]; rfl
    simp [List.getD, this]
def tMaxD (t tk : TA) : TE := fun σ H Q => t σ H fun vs H1 => tk σ H1 fun zs H2 => ∃ (p : Addr) (ns : List Int), vs = [.ref p] ∧ zs = [.int 0] ∧ H2 p = some (.lst (ns.map V.int)) ∧ (∀ n ∈ ns, 0 ≤ n) ∧ Q (.int (mz ns)) H2
end
section
variable {K : PySem.W.Frag} {σ : St} {H : Hp} {Q : VK}
theorem w_maxD {t tk : TA} : tMaxD t tk σ H Q = t σ H fun vs H1 => tk σ H1 fun zs H2 => ∃ (p : Addr) (ns : List Int), vs = [.ref p] ∧ zs = [.int 0] ∧ H2 p = some (.lst (ns.map V.int)) ∧ (∀ n ∈ ns, 0 ≤ n) ∧ Q (.int (mz ns)) H2 := rfl
theorem w_sl {r : V → Option Int → Option Int → Hp → VK → Prop} {te : TE} {tl th : TO} : tSl r te tl th σ H Q = te σ H fun x H1 => tl σ H1 fun l H2 => th σ H2 fun u H3 => r x l u H3 Q := rfl
theorem w_noPart {R : Option Int → Hp → Prop} : tNoPart σ H R = R none H := rfl
theorem w_part {t : TE} {R : Option Int → Hp → Prop} : tPart t σ H R = t σ H fun x H1 => ∃ i, x = .int i ∧ R (some i) H1 := rfl
theorem w_slL {a : Addr} {lo hi : Option Int} : rSlL K (.ref a) lo hi H Q = ∃ xs, SqL K H a xs ∧ ∀ p, H p = none → Q (.ref p) (upd H p (.lst (cutV xs lo hi))) :=
  propext ⟨fun ⟨a', xs, e, h, q⟩ => by cases e; exact ⟨xs, h, q⟩, fun ⟨xs, h, q⟩ => ⟨a, xs, rfl, h, q⟩⟩
def liI (g : Int → Int) : V → Option V := fun x => match x with
  | .int n => some (.int (g n))
  | _ => none
theorem liI_map (g : Int → Int) : ∀ (ns : List Int), (ns.map V.int).filterMap (liI g) = (ns.map g).map V.int
  | [] => rfl
  | n :: r => by
    rw [List.map_cons, List.filterMap_cons_some (f := liI g) (a := V.int n) (b := V.int (g n)) rfl, liI_map g r]
    rfl
end
def halN (c : Int) : Nat := if c > 1 then Builtin.Int.intBits (c - 1) else 0
def ld (ns : List Int) : Int := mz (ns.map fun n => ((halN (wn n : Nat) : Nat) : Int))
end L2
set_option Elab.async false
set_option linter.all false
set_option maxRecDepth 100000
set_option maxHeartbeats 1000000
namespace L2
open PySem PySem.Spec PyProof.Rows
section
variable {σ : St} {H : Hp} {Q : VK} {D : Ends}
theorem w_aug {i : Nat} {te : TE} {ti : TIp} : tAug i te ti D σ H = ∃ x, σ[i]? = some (some x) ∧ te σ H fun y H1 => ti x y H1 fun z H2 => D.nx (σ.set i (some z)) H2 := rfl
theorem w_ipI {f : Int → Int → Int} {i j : Int} : ipI f (.int i) (.int j) H Q = Q (.int (f i j)) H := propext ⟨fun ⟨_, _, e1, e2, q⟩ => by cases e1; cases e2; exact q, fun q => ⟨i, j, rfl, rfl, q⟩⟩
theorem w_dnK : tDNewK σ H Q = ∀ p, H p = none → Q (.ref p) (upd H p (.dK [])) := rfl
end
structure Dd where
  g : Int
  a : Nat
  s : Nat
  b : Nat
  t : Nat
def dnum (ns : List Int) (d : Dd) : Int := ns.getD d.a 0 * 2 ^ d.s + d.g * (ns.getD d.b 0 * 2 ^ d.t)
def ev (ds : List Dd) : List Int := ds.foldl (fun ns d => ns ++ [dnum ns d]) [1]
theorem snoc_ind {α : Type} {p : List α → Prop} (h0 : p []) (hs : ∀ xs x, p xs → p (xs ++ [x])) (xs : List α) : p xs := by
  have : p xs.reverse.reverse := by
    generalize xs.reverse = ys
    induction ys with
    | nil => exact h0
    | cons y r ih => rw [List.reverse_cons]; exact hs _ _ ih
  rwa [List.reverse_reverse] at this
def coreN (n : Int) : Int := (coreL n).headD 0
def shN (n : Int) : Int := (coreL n).getD 1 0
def sgN (n : Int) : Int := (coreL n).getD 2 0
theorem core_three (n : Int) : coreL n = [coreN n, shN n, sgN n] := by
  by_cases h : n = 0
  · subst h; rfl
  · obtain ⟨m, k, e1, e2⟩ := core_fact h
    unfold coreN shN sgN
    rw [e2]
    rfl
theorem core_props {n : Int} (h : n ≠ 0) : 0 < coreN n ∧ coreN n % 2 = 1 ∧ ∃ k : Nat, shN n = k ∧ coreN n * 2 ^ k * sgN n = n ∧ (sgN n = 1 ∨ sgN n = -1) ∧ (coreN n).natAbs ≤ n.natAbs ∧ 2 ^ k ≤ n.natAbs ∧ wn (coreN n) = wn n := by
  obtain ⟨m, k, e1, e2⟩ := core_fact h
  have ec : coreN n = 2 * (m : Int) + 1 := by unfold coreN; rw [e2]; rfl
  have es : shN n = k := by unfold shN; rw [e2]; rfl
  have eg : sgN n = if 0 < n then 1 else -1 := by unfold sgN; rw [e2]; rfl
  have en : coreN n * 2 ^ k * sgN n = n := by
    rw [ec, eg, ← e1]
    unfold absI
    split <;> split <;> omega
  have p := pow_pos2 k
  have ea : absI n = ((n.natAbs : Nat) : Int) := by unfold absI; split <;> omega
  have e3 : ((n.natAbs : Nat) : Int) = (2 * (m : Int) + 1) * 2 ^ k := by rw [← ea, e1]
  have e4 : n.natAbs = (2 * m + 1) * 2 ^ k := by
    have : ((n.natAbs : Nat) : Int) = (((2 * m + 1) * 2 ^ k : Nat) : Int) := by rw [e3, Int.natCast_mul, Int.natCast_pow]; rfl
    exact Int.ofNat.inj this
  refine ⟨by omega, by omega, k, es, en, by rw [eg]; split <;> simp, ?_, ?_, ?_⟩
  · rw [ec, e4]
    have : (2 * (m : Int) + 1).natAbs = 2 * m + 1 := by omega
    rw [this]
    exact Nat.le_mul_of_pos_right _ (Nat.two_pow_pos k)
  · rw [e4]
    exact Nat.le_mul_of_pos_left _ (by omega)
  · have hk : ∀ (k : Nat) (c : Int), wn (c * 2 ^ k) = wn c := by
      intro k
      induction k with
      | zero => intro c; rw [Int.pow_zero, Int.mul_one]
      | succ k ih => intro c; rw [Int.pow_succ, ← Int.mul_assoc, Int.mul_comm _ 2, wn_dbl, ih]
    rcases (show sgN n = 1 ∨ sgN n = -1 by rw [eg]; split <;> simp) with e | e
    · rw [e, Int.mul_one] at en
      rw [← hk k, en]
    · rw [e, Int.mul_neg, Int.mul_one] at en
      rw [← hk k, ← wn_neg, en]
def spCoreT : Sp := fun vs H Q _ => ∃ n : Int, vs = [.int n] ∧ ∀ p, H p = none → Q (.ref p) (upd H p (.tup [.int (coreN n), .int (shN n), .int (sgN n)]))
section
variable {X : Cx}
end
section
variable {K : PySem.W.Frag} {H : Hp} {Q : VK}
theorem w_ixT {p : Addr} {i : Int} : rIxT K (.ref p) (.int i) H Q = ∃ xs, SqT K H p xs ∧ ∃ v, atI xs i = some v ∧ Q v H :=
  propext ⟨fun ⟨p', xs, i', v, e1, e2, h, a, q⟩ => by cases e1; cases e2; exact ⟨xs, h, v, a, q⟩, fun ⟨xs, h, v, a, q⟩ => ⟨p, xs, i, v, rfl, rfl, h, a, q⟩⟩
theorem w_eqS {x y : Str} : rEq (.str x) (.str y) H Q = Q (.bl (decide (x = y))) H :=
  propext (by
    have e : decide (V.str x = V.str y) = decide (x = y) := by by_cases h : x = y <;> simp [h]
    unfold rEq
    rw [e]
    exact ⟨fun h => h.2, fun h => ⟨rfl, h⟩⟩)
end
end L2
set_option Elab.async false
set_option linter.all false
set_option maxRecDepth 100000
set_option maxHeartbeats 1000000
namespace L2
open PySem PySem.Spec PyProof.Rows
theorem Inv.turnedL {X : Cx} {pins : List (Addr × Obj)} {σ : St} {H : Hp} {s : Shared} {h' : Heap} {t' : Nat} (ch : List Addr) (I : Inv X pins σ H s) (k : ∀ b o, b ∉ ch → s.heap.get? b = some o → h'.get? b = some o) (hf : ∀ b ∈ ch, FpOk X pins H b) : Inv X pins σ H { s with heap := h', toks := t' } := by
  have nit : ∀ b u, H b = some u → b ∉ ch := fun b u e z => by rw [(hf b z).1] at e; cases e
  refine I.step (g' := s.gens) (d' := s.drawn) (ch := ch) (fun b hb => ?_) (fun b o _ _ hc e _ => k b o hc e) (fun b o _ _ hc e _ => ⟨o.slots, k b o hc e⟩) (fun _ _ _ _ n => n)
    (fun b o hc e => ⟨o, k b o hc e⟩) (fun _ _ e => e) (fun _ _ _ e => e) (fun b ps e => ⟨#[], by rw [e]; simp⟩) (fun m hm => ?_) (fun b u e => ?_) I.bare
  · obtain ⟨f0, f1, f2, f3, f4, f5⟩ := hf b hb
    exact ⟨f3, f1, f4, f5⟩
  · obtain ⟨o, es, ep, ho, r⟩ := hm
    exact ⟨o, es, ep, k _ o (fun z => (hf _ z).2.1 rfl) ho, r⟩
  · refine (I.hok b u e).stay (fun c v hc q => k c v ?_ q) (fun _ q => q) fun _ _ q => q
    rcases hc with z | z
    · rw [z]; exact nit b u e
    · exact nit c _ z
theorem get_push_ne {h : Heap} {b : Addr} {o o' : Obj} (n : b ≠ h.objs.size) (e : (h.push o').get? b = some o) : h.get? b = some o := by
  rw [Heap.get?_push_ne h b o' n] at e
  exact e
def Itz (K : PySem.W.Frag) (a b : Addr) : It :=
  ⟨fun i H => ∃ xs ys, SqL K H a xs ∧ SqL K H b ys ∧ i < xs.length ∧ i < ys.length,
   fun i H x H' => ∃ T u v, x = .ref T ∧ H T = none ∧ H' = upd H T (.tup [u, v]) ∧ (∀ xs, SqL K H a xs → xs[i]? = some u) ∧ (∀ ys, SqL K H b ys → ys[i]? = some v),
   fun i H => ∃ xs ys, SqL K H a xs ∧ SqL K H b ys ∧ (xs.length ≤ i ∨ ys.length ≤ i)⟩
def tnZ (z TI TO i1 i2 a b : Addr) (i : Nat) (h : Heap) : Prop := IsZip h z TI TO .none ∧ IsPair h TI (.ref i1) (.ref i2) ∧ (∃ x y, IsPair h TO x y) ∧ h.IsListIter i1 a i ∧ h.IsListIter i2 b i
theorem turn_zip {P : Program} {w : World} {K : PySem.W.Frag} {elts : List Expr} {x1 : Nat} {pos : Pos} {z TI TO i1 i2 a b : Addr} (D : ZipApart z TI TO i1 i2 a b) : Turn P w K (.Tuple elts x1 pos) (Itz K a b) [z, TI, TO, i1, i2] z (tnZ z TI TO i1 i2 a b) where
  mem := by simp
  obj := fun i h st c hc => by
    obtain ⟨t1, t2, ⟨x0, y0, t3⟩, ⟨o4, e4, c4, d4⟩, ⟨o5, e5, c5, d5⟩⟩ := st
    simp only [List.mem_cons, List.not_mem_nil, or_false] at hc
    rcases hc with e | e | e | e | e <;> subst e
    · exact ⟨_, t1, fun v q => by cases q⟩
    · exact ⟨_, t2, fun v q => by cases q⟩
    · exact ⟨_, t3, fun v q => by cases q⟩
    · exact ⟨o4, e4, fun v q => by rw [d4] at q; cases q⟩
    · exact ⟨o5, e5, fun v q => by rw [d5] at q; cases q⟩
  keep := fun i h h' st k => by
    obtain ⟨t1, t2, ⟨x0, y0, t3⟩, t4, t5⟩ := st
    exact ⟨k z (by simp) _ t1, k TI (by simp) _ t2, ⟨x0, y0, k TO (by simp) _ t3⟩, t4.at fun o e => k i1 (by simp) o e, t5.at fun o e => k i2 (by simp) o e⟩
  item := by
    intro X hP hw hK hc i pins s σ H E I hf st hg
    subst hP hw hK
    obtain ⟨xs, ys, hq, hq2, hi, hi2⟩ := hg
    obtain ⟨its, rv, p, hz⟩ := I.list hq
    obtain ⟨its2, rv2, p2, hz2⟩ := I.list hq2
    obtain ⟨u, hu, ru⟩ := rv.get (List.getElem?_eq_getElem hi)
    obtain ⟨v, hv, rv'⟩ := rv2.get (List.getElem?_eq_getElem hi2)
    obtain ⟨t1, t2, ⟨x0, y0, t3⟩, t4, t5⟩ := st
    have hl1 : z < s.heap.objs.size := Heap.lt_size t1
    have hl3 : TO < s.heap.objs.size := Heap.lt_size t3
    have hl2 : TI < s.heap.objs.size := Heap.lt_size t2
    have hl4 : i1 < s.heap.objs.size := by obtain ⟨o, e, _⟩ := t4; exact Heap.lt_size e
    have hl5 : i2 < s.heap.objs.size := by obtain ⟨o, e, _⟩ := t5; exact Heap.lt_size e
    refine wpAny_pyNext_zip_item D t1 t2 t3 t4 t5 p.isList p2.isList (x := u) (y := v) (by simpa using hu) (by simpa using hv) fun h' a1 a2 a3 a4 a5 a6 a7 => ⟨_, rfl, ?_⟩
    refine wpAny_letOwnedTupleGo_zip a1 fun h2 b1 b2 => ?_
    have hT0 : H s.heap.objs.size = none := I.hok.fresh (Nat.le_refl _)
    have I1 : Inv X pins σ (upd H s.heap.objs.size (.tup [xs[i], ys[i]])) { s with heap := s.heap.push { cls := .type "tuple", data := .seq [u, v].toArray } } :=
      I.laid (t' := s.toks) (fun b o e => Heap.get?_push_of_some _ e) (Nat.le_refl _) (show ObjOk X.prog X.w _ _ _ (.tup [xs[i], ys[i]]) from ⟨le_size (by show 2 ≤ 1000; decide), [u, v], .cons ru (.cons rv' .nil), IsTup.new _ _⟩)
    have fpk : ∀ c ∈ [z, TI, TO, i1, i2], c ≠ s.heap.objs.size := fun c hc => by
      simp only [List.mem_cons, List.not_mem_nil, or_false] at hc
      rcases hc with e | e | e | e | e <;> subst e <;> exact Nat.ne_of_lt (by assumption)
    have fp2 : ∀ c ∈ [z, TI, TO, i1, i2], FpOk X pins (upd H s.heap.objs.size (.tup [xs[i], ys[i]])) c := fun c hc => by
      obtain ⟨f0, f⟩ := hf c hc
      exact ⟨by rw [upd_ne (fpk c hc)]; exact f0, f⟩
    have I2 : Inv X pins σ (upd H s.heap.objs.size (.tup [xs[i], ys[i]])) { s with heap := h2 } := by
      refine Inv.turnedL (s := { s with heap := s.heap.push { cls := .type "tuple", data := .seq [u, v].toArray } }) (t' := s.toks) (h' := h2) [z, TO, i1, i2] I1 (fun b o hb e => ?_) (fun c hc => fp2 c (by simp only [List.mem_cons, List.not_mem_nil, or_false] at hc ⊢; rcases hc with e | e | e | e <;> simp [e]))
      simp only [List.mem_cons, List.not_mem_nil, or_false, not_or] at hb
      obtain ⟨n1, n2, n3, n4⟩ := hb
      refine (b2.2 b n1).trans ?_
      by_cases hT : b = s.heap.objs.size
      · subst hT
        rw [Heap.get?_push_size _ rfl] at e
        rw [← e]
        exact a5
      · exact a7 b o n1 n2 n3 n4 (get_push_ne hT e)
    have t4' : h2.IsListIter i1 a (i + 1) := a3.at fun o e => (b2.2 _ D.i1z).trans e
    have t5' : h2.IsListIter i2 b (i + 1) := a4.at fun o e => (b2.2 _ D.i2z).trans e
    refine ⟨.ref s.heap.objs.size, _, I2, rfl, ⟨_, xs[i], ys[i], rfl, hT0, rfl, fun zs h => ?_, fun zs h => ?_⟩, ⟨b1, (b2.2 _ D.TIz).trans (a7 TI _ D.TIz D.TITO D.TIi1 D.TIi2 t2), ⟨_, _, (b2.2 _ D.TOz).trans a2⟩, t4', t5'⟩, fun c hc => (fp2 c hc).1⟩
    · rw [I.list_inj h hq]; exact List.getElem?_eq_getElem hi
    · rw [I.list_inj h hq2]; exact List.getElem?_eq_getElem hi2
  done := by
    intro X hP hw hK hc i pins s σ H E I hf st hg
    subst hP hw hK
    obtain ⟨xs, ys, hq, hq2, hend⟩ := hg
    obtain ⟨its, rv, p, hz⟩ := I.list hq
    obtain ⟨its2, rv2, p2, hz2⟩ := I.list hq2
    obtain ⟨t1, t2, ⟨x0, y0, t3⟩, t4, t5⟩ := st
    refine wpAny_pyNext_zip_end (I.ok.hd hc) D t1 t2 t3 t4 t5 p.isList p2.isList ?_ fun h' a7 => ⟨rfl, ?_⟩
    · rcases hend with e | e
      · left; simp [← rv.length, e]
      · right; simp [← rv2.length, e]
    · refine Inv.turnedL (t' := s.toks) (h' := h') [z, TO, i1, i2] I (fun b o hb e => ?_) (fun c hc => hf c (by simp only [List.mem_cons, List.not_mem_nil, or_false] at hc ⊢; rcases hc with e | e | e | e <;> simp [e]))
      simp only [List.mem_cons, List.not_mem_nil, or_false, not_or] at hb
      obtain ⟨n1, n2, n3, n4⟩ := hb
      exact a7 b o n1 n2 n3 n4 e
  self := fun _ _ _ _ _ st h => wpAny_pyIter_zip st.1 h
def iZip (K : PySem.W.Frag) (ta : TA) : TI := fun σ H R => ta σ H fun vs H1 => ∃ a b xs ys, vs = [.ref a, .ref b] ∧ SqL K H1 a xs ∧ SqL K H1 b ys ∧ R (Itz K a b) H1
theorem pi_zip {X : Cx} {elts : List Expr} {x1 : Nat} {tpos : Pos} {a b : Expr} {ta : TA} {p pos : Pos} (hg : Gl X "zip") (hm : X.mg "zip" = none) (ha : PA X [a, b] ta) (hs : starEach [a, b] X.env = (false, eval a X.env) :: starEach [b] X.env := by rfl) (hpl : (backTo pos (starEach [b] X.env)).any (·.1) = false := by rfl) :
    PI X (.Tuple elts x1 tpos) (.Call (.Name "zip" p) [a, b] [] pos) (iZip X.K ta) := by
  intro pins s σ H R I h
  refine Call_ (ld_blt I hg hm bo_zip (PyProof.Rows.callWith_type1 (thn (ha pos pins s σ H _ I h) fun us s1 ⟨vs, H1, I1, r1, q1⟩ => ?_) hs hpl))
  obtain ⟨l1, l2, xs, ys, e, hq, hq2, q⟩ := q1
  subst e
  obtain ⟨u1, u2, rfl, ru1, ru2⟩ := vals2 r1
  cases (show u1 = Value.ref l1 from ru1)
  cases (show u2 = Value.ref l2 from ru2)
  obtain ⟨its, rv, pl, hz⟩ := I1.list hq
  obtain ⟨its2, rv2, pl2, hz2⟩ := I1.list hq2
  have lt1 : l1 < s1.heap.objs.size := by obtain ⟨o, e, _⟩ := pl.isList; exact Heap.lt_size e
  have lt2 : l2 < s1.heap.objs.size := by obtain ⟨o, e, _⟩ := pl2.isList; exact Heap.lt_size e
  refine call_zip_2 pl.isList pl2.isList fun h' z1 z2 z3 z4 z5 z6 z7 => ?_
  have I2 : Inv X pins σ H1 { s1 with heap := h' } := I1.kept (t' := s1.toks) z7
  refine wpAny_pyIter_zip z1 ?_
  have D : ZipApart (s1.heap.objs.size + 4) (s1.heap.objs.size + 2) (s1.heap.objs.size + 3) s1.heap.objs.size (s1.heap.objs.size + 1) l1 l2 := by
    have q1 : @LT.lt Nat _ l1 s1.heap.objs.size := lt1
    have q2 : @LT.lt Nat _ l2 s1.heap.objs.size := lt2
    constructor <;> (show ¬ @Eq Nat _ _; omega)
  refine ⟨s1.heap.objs.size + 4, _, _, _, H1, rfl, I2, turn_zip D, ⟨z1, z2, ⟨_, _, z3⟩, z4, z5⟩, fun c hc => ?_, q⟩
  have hle : s1.heap.objs.size ≤ c := by
    simp only [List.mem_cons, List.not_mem_nil, or_false] at hc
    show (s1.heap.objs.size : Nat) ≤ c
    rcases hc with e | e | e | e | e <;> subst e <;> (show @LE.le Nat _ _ _; omega)
  exact I1.fpOk hle (I1.hok.fresh hle)
end L2
set_option Elab.async false
set_option linter.all false
set_option maxRecDepth 100000
set_option maxHeartbeats 1000000
namespace L2
open PySem PySem.Spec PyProof.Rows
theorem bo_enumerate : bootBuiltins "enumerate" = some (.type "enumerate") := by decide +kernel
def Ite (K : PySem.W.Frag) (a : Addr) : It :=
  ⟨fun i H => ∃ xs, SqL K H a xs ∧ i < xs.length,
   fun i H x H' => ∃ T u, x = .ref T ∧ H T = none ∧ H' = upd H T (.tup [.int (i : Int), u]) ∧ (∀ xs, SqL K H a xs → xs[i]? = some u),
   fun i H => ∃ xs, SqL K H a xs ∧ xs.length ≤ i⟩
theorem turn_enum {P : Program} {w : World} {K : PySem.W.Frag} {elts : List Expr} {x1 : Nat} {pos : Pos} {e it a : Addr} (hne : e ≠ it) : Turn P w K (.Tuple elts x1 pos) (Ite K a) [e, it] e (fun i h => (∃ old, IsEnum h e it (i : Int) old) ∧ h.IsListIter it a i) where
  mem := by simp
  obj := fun i h st c hc => by
    obtain ⟨⟨old, t1⟩, ⟨o2, e2, c2, d2⟩⟩ := st
    simp only [List.mem_cons, List.not_mem_nil, or_false] at hc
    rcases hc with z | z <;> subst z
    · exact ⟨_, t1, fun v q => by cases q⟩
    · exact ⟨o2, e2, fun v q => by rw [d2] at q; cases q⟩
  keep := fun i h h' st k => by
    obtain ⟨⟨old, t1⟩, t2⟩ := st
    exact ⟨⟨old, k e (by simp) _ t1⟩, t2.at fun o z => k it (by simp) o z⟩
  item := by
    intro X hP hw hK hc i pins s σ H E I hf st hg
    subst hP hw hK
    obtain ⟨xs, hq, hi⟩ := hg
    obtain ⟨its, rv, p, hz⟩ := I.list hq
    obtain ⟨u, hu, ru⟩ := rv.get (List.getElem?_eq_getElem hi)
    obtain ⟨⟨old, t1⟩, t2⟩ := st
    have hl1 : e < s.heap.objs.size := Heap.lt_size t1
    have hl2 : it < s.heap.objs.size := by obtain ⟨o, z, _⟩ := t2; exact Heap.lt_size z
    refine wpAny_pyNext_enum_item t1 t2 p.isList (x := u) (by simpa using hu) hne fun h' a1 a2 a3 a4 a5 => ⟨_, rfl, ?_⟩
    refine wpAny_letOwnedTupleGo_enum (s := { s with heap := h', toks := s.toks + 1 }) a1 fun h2 b1 b2 => ?_
    have hT0 : H s.heap.objs.size = none := I.hok.fresh (Nat.le_refl _)
    have I1 : Inv X pins σ (upd H s.heap.objs.size (.tup [.int (i : Int), xs[i]])) { s with heap := s.heap.push { cls := .type "tuple", data := .seq [Value.int (i : Int) s.toks, u].toArray } } :=
      I.laid (t' := s.toks) (fun b o z => Heap.get?_push_of_some _ z) (Nat.le_refl _) (show ObjOk X.prog X.w _ _ _ (.tup [.int (i : Int), xs[i]]) from ⟨le_size (by show 2 ≤ 1000; decide), [Value.int (i : Int) s.toks, u], .cons ⟨_, rfl⟩ (.cons ru .nil), IsTup.new _ _⟩)
    have fpk : ∀ c ∈ [e, it], c ≠ s.heap.objs.size := fun c hc => by
      simp only [List.mem_cons, List.not_mem_nil, or_false] at hc
      rcases hc with z | z <;> subst z <;> exact Nat.ne_of_lt (by assumption)
    have fp2 : ∀ c ∈ [e, it], FpOk X pins (upd H s.heap.objs.size (.tup [.int (i : Int), xs[i]])) c := fun c hc => by
      obtain ⟨f0, f⟩ := hf c hc
      exact ⟨by rw [upd_ne (fpk c hc)]; exact f0, f⟩
    have I2 : Inv X pins σ (upd H s.heap.objs.size (.tup [.int (i : Int), xs[i]])) { s with heap := h2, toks := s.toks + 1 } := by
      refine Inv.turnedL (s := { s with heap := s.heap.push { cls := .type "tuple", data := .seq [Value.int (i : Int) s.toks, u].toArray } }) (t' := s.toks + 1) (h' := h2) [e, it] I1 (fun b o hb z => ?_) fp2
      simp only [List.mem_cons, List.not_mem_nil, or_false, not_or] at hb
      obtain ⟨n1, n2⟩ := hb
      refine (b2.2 b n1).trans ?_
      by_cases hT : b = s.heap.objs.size
      · subst hT
        rw [Heap.get?_push_size _ rfl] at z
        rw [← z]
        exact a3
      · exact a5 b o n1 n2 (get_push_ne hT z)
    have e1 : ((i : Int) + 1) = ((i + 1 : Nat) : Int) := by omega
    rw [e1] at b1
    refine ⟨.ref s.heap.objs.size, _, I2, rfl, ⟨_, xs[i], rfl, hT0, rfl, fun zs h => ?_⟩, ⟨⟨_, b1⟩, a2.at fun o z => (b2.2 _ hne.symm).trans z⟩, fun c hc => (fp2 c hc).1⟩
    rw [I.list_inj h hq]; exact List.getElem?_eq_getElem hi
  done := by
    intro X hP hw hK hc i pins s σ H E I hf st hg
    subst hP hw hK
    obtain ⟨xs, hq, hend⟩ := hg
    obtain ⟨its, rv, p, hz⟩ := I.list hq
    obtain ⟨⟨old, t1⟩, t2⟩ := st
    refine wpAny_pyNext_enum_end (I.ok.hd hc) t1 t2 p.isList (by simp [← rv.length, hend]) fun h' a7 => ⟨rfl, ?_⟩
    refine Inv.turnedL (t' := s.toks) (h' := h') [it] I (fun b o hb z => a7 b o (by simpa using hb) z) (fun c hc => hf c (by simp only [List.mem_cons, List.not_mem_nil, or_false] at hc ⊢; exact .inr hc))
  self := fun _ i s _ _ st h => by
    obtain ⟨⟨old, t1⟩, t2⟩ := st
    exact wpAny_pyIter_enum t1 h
def iEnum (K : PySem.W.Frag) (ta : TA) : TI := fun σ H R => ta σ H fun vs H1 => ∃ a xs, vs = [.ref a] ∧ SqL K H1 a xs ∧ R (Ite K a) H1
theorem pi_enum {X : Cx} {elts : List Expr} {x1 : Nat} {tpos : Pos} {a : Expr} {ta : TA} {p pos : Pos} (hg : Gl X "enumerate") (hm : X.mg "enumerate" = none) (ha : PA X [a] ta) (hs : starEach [a] X.env = [(false, eval a X.env)] := by rfl) :
    PI X (.Tuple elts x1 tpos) (.Call (.Name "enumerate" p) [a] [] pos) (iEnum X.K ta) := by
  intro pins s σ H R I h
  refine Call_ (ld_blt I hg hm bo_enumerate (PyProof.Rows.callWith_type1 (thn (ha pos pins s σ H _ I h) fun us s1 ⟨vs, H1, I1, r1, q1⟩ => ?_) hs rfl))
  obtain ⟨l1, xs, e, hq, q⟩ := q1
  subst e
  obtain ⟨u1, rfl, ru1⟩ := vals1 r1
  cases (show u1 = Value.ref l1 from ru1)
  obtain ⟨its, rv, pl, hz⟩ := I1.list hq
  refine call_enumerate_list pl.isList fun h' z1 z2 z3 z4 => ?_
  have I2 : Inv X pins σ H1 { s1 with heap := h' } := I1.kept (t' := s1.toks) z4
  refine wpAny_pyIter_enum z1 ?_
  refine ⟨s1.heap.objs.size + 1, _, _, _, H1, rfl, I2, turn_enum (by show ¬ @Eq Nat _ _; omega), ⟨⟨_, z1⟩, z2⟩, fun c hc => ?_, q⟩
  have hle : s1.heap.objs.size ≤ c := by
    simp only [List.mem_cons, List.not_mem_nil, or_false] at hc
    rcases hc with z | z <;> subst z <;> (show @LE.le Nat _ _ _; omega)
  exact I1.fpOk hle (I1.hok.fresh hle)
section
variable {K : PySem.W.Frag} {σ : St} {H : Hp} {Q : VK}
theorem comp_any {J : It} {nt : Nat} {cs : List Nat} {g : TG} {tt : TT} {te : TE} (n : Nat) (Pv : Addr → Nat → List V → Hp → Prop) (hz : n ≤ sizeLine)
    (hgo : ∀ acc i ys H', i < n → Pv acc i ys H' → J.go i H') (hst : ∀ acc ys H', Pv acc n ys H' → J.stop n H')
    (h0 : ∀ acc, H acc = none → Pv acc 0 [] (upd H acc (.lst []))) (hacc : ∀ acc i ys H', Pv acc i ys H' → H' acc = some (.lst ys) ∧ ys.length ≤ i)
    (hs : ∀ acc i ys H' (ts : St) x H2 (N : List V → St → Hp → Prop), H acc = none → i < n → Pv acc i ys H' → J.yld i H' x H2 → ts.length = nt → (∀ zs (ts' : St) H3, ts'.length = nt → Pv acc (i + 1) zs H3 → N zs (ts' ++ capV cs σ) H3) →
      g x (ts ++ capV cs σ) H2 fun σ3 H3 => tt σ3 H3 fun b H4 => if b = true then te σ3 H4 fun y H5 => H5 acc = some (.lst ys) ∧ N (ys ++ [y]) σ3 (upd H5 acc (.lst (ys ++ [y]))) else N ys σ3 H4)
    (hd : ∀ acc ys H', H acc = none → Pv acc n ys H' → Q (.ref acc) H') : CompIt J nt cs g tt te σ H Q := by
  intro acc hn
  refine ⟨fun i m ys σ' H' => m = n - i ∧ i ≤ n ∧ (∃ ts : St, ts.length = nt ∧ σ' = ts ++ capV cs σ) ∧ Pv acc i ys H', ⟨_, rfl, Nat.zero_le _, ⟨List.replicate nt none, List.length_replicate, rfl⟩, h0 acc hn⟩, ?_⟩
  rintro i m ys σ' H' ⟨rfl, hi, ⟨ts, hts, rfl⟩, p⟩
  obtain ⟨ha, hl⟩ := hacc acc i ys H' p
  refine ⟨ha, ?_⟩
  by_cases hlt : i < n
  · refine .inr ⟨hgo acc i ys H' hlt p, by omega, fun zs σ2 H2 => (∃ ts : St, ts.length = nt ∧ σ2 = ts ++ capV cs σ) ∧ Pv acc (i + 1) zs H2, fun zs σ2 H2 ⟨q1, q2⟩ => ⟨n - (i + 1), by omega, rfl, hlt, q1, q2⟩, fun x H2 y => ?_⟩
    exact hs acc i ys H' ts x H2 (fun zs σ2 H2 => (∃ ts : St, ts.length = nt ∧ σ2 = ts ++ capV cs σ) ∧ Pv acc (i + 1) zs H2) hn hlt p y hts fun zs ts' H3 h1 h2 => ⟨⟨ts', h1, rfl⟩, h2⟩
  · have e : i = n := by omega
    subst e
    exact .inl ⟨hst acc ys H' p, hd acc ys H' hn p⟩
theorem w_compE {ta : TA} {nt : Nat} {cs : List Nat} {g : TG} {tt : TT} {te : TE} : tComp (iEnum K ta) nt cs g tt te σ H Q = (ta σ H fun vs H1 => ∃ a xs, vs = [.ref a] ∧ SqL K H1 a xs ∧ CompIt (Ite K a) nt cs g tt te σ H1 Q) := rfl
theorem w_compZ {ta : TA} {nt : Nat} {cs : List Nat} {g : TG} {tt : TT} {te : TE} : tComp (iZip K ta) nt cs g tt te σ H Q = (ta σ H fun vs H1 => ∃ a b xs ys, vs = [.ref a, .ref b] ∧ SqL K H1 a xs ∧ SqL K H1 b ys ∧ CompIt (Itz K a b) nt cs g tt te σ H1 Q) := rfl
end
def Itr3 (lo c : Int) (n : Nat) : It := ⟨fun i _ => i < n, fun i H x H' => H' = H ∧ x = .int (lo + i * c), fun i _ => n ≤ i⟩
theorem turn_range3 {P : Program} {w : World} {K : PySem.W.Frag} {tg : Expr} (it : Addr) (lo c : Int) (n : Nat) : Turn P w K tg (Itr3 lo c n) [it] it (fun i h => IsRangeIter h it (lo + (i : Nat) * c) ((n : Int) - (i : Nat)) c) where
  mem := by simp
  obj := fun i h st b hb => by
    have e : b = it := by simpa using hb
    subst e
    exact ⟨_, st, fun v z => by
      have z' : Data.fields _ = Data.cell v := z
      cases z'⟩
  keep := fun i h h' st k => k it (by simp) _ st
  item := by
    intro X hP hw hK hc i pins s σ H E I hf st hg
    subst hP hw hK
    obtain ⟨f0, f1, f2, f3, f4, f5⟩ := hf it (by simp)
    have W := Walks.range (prog := X.prog) (w := X.w) (I.ok.hd hc) it lo c n
    refine W.item i s _ _ hg st fun v h' tk hv st' kk => ?_
    obtain ⟨t, rfl⟩ := hv
    have I1 : Inv X pins σ H { s with heap := h', toks := tk } := I.turned (fun b o hb e => kk b o (by simpa using hb) e) f0 f1 f3 f4 f5
    exact ⟨_, rfl, go_of (s := { s with heap := h', toks := tk }) (n := "range_iterator") st' rfl rfl (by decide) ⟨.int (lo + i * c), H, I1, ⟨t, rfl⟩, ⟨rfl, rfl⟩, st', fun b hb => (hf b hb).1⟩⟩
  done := by
    intro X hP hw hK hc i pins s σ H E I hf st hg
    subst hP hw hK
    obtain ⟨f0, f1, f2, f3, f4, f5⟩ := hf it (by simp)
    exact wpAny_pyNext_range_end (I.ok.hd hc) st (by have : n ≤ i := hg; omega) fun h' eb => ⟨rfl, I.turned (t' := s.toks) (fun b o hb e => eb b o hb e) f0 f1 f3 f4 f5⟩
  self := fun _ _ _ _ _ st h => wpAny_pyIter_rangeiter st h
def stepN (lo hi c : Int) : Nat := (Builtin.Range.rangeSize lo hi c).toNat
def iRng3 (ta : TA) : TI := fun σ H R => ta σ H fun vs H1 => ∃ i j c : Int, vs = [.int i, .int j, .int c] ∧ (0 ≤ i ∧ i < 2 ^ 31 ∧ -1 ≤ j ∧ j < 2 ^ 31 ∧ c = 2) ∧ R (Itr3 i c (stepN i j c)) H1
def ForR3 (lo c : Int) (n : Nat) (g : TG) (tb : TS) (D : Ends) (σ : St) (H : Hp) : Prop := ∃ W : Nat → Nat → St → Hp → Prop, (∃ m, W 0 m σ H) ∧ ∀ i m σ H, W i m σ H →
  ((Itr3 lo c n).stop i H ∧ D.nx σ H) ∨ ((Itr3 lo c n).go i H ∧ ∃ N : St → Hp → Prop, (∀ σ' H', N σ' H' → ∃ m', m' < m ∧ W (i + 1) m' σ' H') ∧ ∀ x H', (Itr3 lo c n).yld i H x H' → g x σ H' fun σ2 H2 => tb { D with nx := N, ct := N, bk := D.nx } σ2 H2)
section
variable {σ : St} {H : Hp} {D : Ends} {g : TG} {tb : TS} {lo c : Int} {n : Nat}
theorem w_for3 {ta : TA} : tFor (iRng3 ta) g tb D σ H = (ta σ H fun vs H1 => ∃ i j c : Int, vs = [.int i, .int j, .int c] ∧ (0 ≤ i ∧ i < 2 ^ 31 ∧ -1 ≤ j ∧ j < 2 ^ 31 ∧ c = 2) ∧ ForR3 i c (stepN i j c) g tb D σ H1) := rfl
theorem forR3 (Pv : Nat → St → Hp → Prop) (h0 : Pv 0 σ H) (hs : ∀ i σ H (N : St → Hp → Prop), i < n → Pv i σ H → (∀ σ' H', Pv (i + 1) σ' H' → N σ' H') → g (.int (lo + i * c)) σ H fun σ2 H2 => tb { D with nx := N, ct := N, bk := D.nx } σ2 H2)
    (hd : ∀ σ H, Pv n σ H → D.nx σ H) : ForR3 lo c n g tb D σ H := by
  refine ⟨fun i m σ H => m = n - i ∧ i ≤ n ∧ Pv i σ H, ⟨n, by simp, Nat.zero_le _, h0⟩, ?_⟩
  rintro i m σ H ⟨rfl, hi, p⟩
  by_cases hlt : i < n
  · refine .inr ⟨hlt, Pv (i + 1), fun σ' H' p' => ⟨n - (i + 1), by omega, rfl, hlt, p'⟩, fun x H' y => ?_⟩
    obtain ⟨e, rfl⟩ := y
    subst e
    exact hs i σ _ (Pv (i + 1)) hlt p fun _ _ z => z
  · have e : i = n := by omega
    subst e
    exact .inl ⟨Nat.le_refl _, hd σ H p⟩
end
end L2
set_option Elab.async false
set_option linter.all false
set_option maxRecDepth 100000
set_option maxHeartbeats 1000000
namespace L2
open PySem PySem.Spec
theorem get_snoc {α : Type} {xs : List α} {x y : α} {i : Nat} (h : (xs ++ [x])[i]? = some y) : (i < xs.length ∧ xs[i]? = some y) ∨ (i = xs.length ∧ y = x) := by
  by_cases hi : i < xs.length
  · rw [List.getElem?_append_left hi] at h
    exact .inl ⟨hi, h⟩
  · rw [List.getElem?_append_right (by omega)] at h
    have hz : i - xs.length = 0 := by
      cases hk : i - xs.length with
      | zero => rfl
      | succ m => rw [hk] at h; simp at h
    rw [hz] at h
    cases h
    exact .inr ⟨by omega, rfl⟩
theorem abs_le_of {a b : Int} {m n : Nat} {g h : Int} (hg : g = 1 ∨ g = -1) (hh : h = 1 ∨ h = -1) (ha : a.natAbs ≤ m) (hb : b.natAbs ≤ n) : (g * a + h * b).natAbs ≤ m + n := by
  rcases hg with e | e <;> rcases hh with e2 | e2 <;> subst e <;> subst e2 <;> omega
end L2
set_option Elab.async false
set_option linter.all false
set_option maxRecDepth 100000
set_option maxHeartbeats 1000000
namespace L2
open PySem PySem.Spec PyProof.Rows
def gTupK (K : PySem.W.Frag) (n : Nat) (t : TGs) : TG := gTup K n t
theorem pg_tupK {X : Cx} (K : PySem.W.Frag) {es : List Expr} {k : Nat} {t : TGs} {pos : Pos} (n : Nat) (hc : X.calm = true) (h : PGs X es t) (hK : X.K = K := by rfl) (hn : (assignEach es X.env).length = n := by rfl) (hst : (assignEach es X.env).findIdx? (·.1) = none := by rfl) : PG X (.Tuple es k pos) (gTupK K n t) := by
  subst hK
  exact pg_tup (X := X) (n := n) hc h hn hst
theorem atI_back {α : Type} {xs : List α} {v : α} (h0 : 0 < xs.length) (h : xs[xs.length - 1]? = some v) : atI xs (-1) = some v := by
  have hne : xs ≠ [] := List.length_pos_iff.mp h0
  have e := List.dropLast_concat_getLast hne
  have e2 : xs.getLast hne = v := by
    rw [List.getLast_eq_getElem]
    rw [List.getElem?_eq_getElem (by omega)] at h
    exact Option.some.inj h
  rw [e2] at e
  rw [← e]
  exact atI_last _ _
section
variable {K : PySem.W.Frag} {σ : St} {H : Hp} {R : St → Hp → Prop}
theorem w_gTupK {n : Nat} {t : TGs} {a : Addr} : gTupK K n t (.ref a) σ H R = ∃ xs, SqT K H a xs ∧ xs.length = n ∧ t xs σ H R :=
  propext ⟨fun ⟨a', xs, e, h, l, q⟩ => by cases e; exact ⟨xs, h, l, q⟩, fun ⟨xs, h, l, q⟩ => ⟨a, xs, rfl, h, l, q⟩⟩
end
end L2
set_option Elab.async false
set_option linter.all false
set_option maxRecDepth 100000
set_option maxHeartbeats 1000000
namespace L2
open PySem PySem.Spec PyProof.Rows
theorem draw_walk {prog : Program} {w : World} {A : Around} {E : Value → Shared → Prop} {I : Addr} {fp wr : List Addr} {n : Nat} {P : Nat → Value → Prop} {St : Nat → Heap → Prop} (W : Walks prog w A I fp wr n P St) : ∀ (k i : Nat) (s : Shared) (Q : List Value → Shared → Prop), i + k ≤ n → St i s.heap →
    (∀ vs h' tk, vs.length = k → (∀ (j : Nat) (v : Value), vs[j]? = some v → P (i + j) v) → St (i + k) h' → (∀ b o, b ∉ wr → s.heap.get? b = some o → h'.get? b = some o) → Q vs { s with heap := h', toks := tk }) → wpAny (model prog w) A (draw (.ref I) k) Q E s
  | 0, i, s, Q, hle, st, hQ => by
    show wpAny _ _ (pure []) Q E s
    exact wpAny_pure (hQ [] s.heap s.toks rfl (fun j v h => by simp at h) st fun _ _ _ e => e)
  | k + 1, i, s, Q, hle, st, hQ => by
    show wpAny _ _ (pyNext (.ref I) >>= _) Q E s
    refine wpAny_bind (W.item i s _ _ (by omega) st fun v h' tk hP st' hk => ?_)
    refine wpAny_bind (wpAny_holding (draw_walk W k (i + 1) _ _ (by omega) st' fun vs h2 tk2 hl hv st2 hk2 => wpAny_pure ?_))
    refine hQ (v :: vs) h2 tk2 (by rw [List.length_cons, hl]) (fun j u hj => ?_) (by rw [show i + (k + 1) = i + 1 + k by omega]; exact st2) fun b o hb e => hk2 b o hb (hk b o hb e)
    cases j with
    | zero => cases hj; exact hP
    | succ j =>
      rw [List.getElem?_cons_succ] at hj
      have := hv j u hj
      rw [show i + (j + 1) = i + 1 + j by omega]
      exact this
theorem vals_at : ∀ {xs : List V} {its us : List Value}, Vals xs its → us.length = its.length → (∀ (j : Nat) (v : Value), us[j]? = some v → its[j]? = some v) → us = its
  | _, its, us, _, hl, h => by
    refine List.ext_getElem? fun j => ?_
    by_cases hj : j < us.length
    · rw [List.getElem?_eq_getElem hj, h j _ (List.getElem?_eq_getElem hj)]
    · rw [List.getElem?_eq_none (by omega), List.getElem?_eq_none (by omega)]
section
variable {X : Cx} {pins : List (Addr × Obj)} {σ : St} {H : Hp} {s : Shared} {p : Addr} {xs : List V}
theorem unpack_list (hc : X.calm = true) (I : Inv X pins σ H s) (hp : H p = some (.lst xs)) {Q : List Value → Shared → Prop} {E : Value → Shared → Prop} (h : ∀ its s', Vals xs its → Inv X pins σ H s' → Q its s') :
    wpAny (model X.prog X.w) X.A (unpackItems (.ref p) xs.length none) Q E s := by
  obtain ⟨its0, rv0, pl, _⟩ := I.list (SqL.of hp)
  unfold unpackItems
  refine wpAny_bind ?_
  unfold notIterableAtAll
  refine wpAny_bind (wpAny_specialOf pl.isList.typeIs slot_list_iter.lookup ?_)
  refine wpAny_pure ?_
  simp only [Bool.false_eq_true, if_false]
  refine wpAny_bind (wpAny_holding (wpAny_of_in1 (walk_list hc I hp fun its rv s2 st hfp hne W hI => ?_)))
  have W2 := W.of_in1
  have hl : its.toArray.size = xs.length := by rw [List.size_toArray, ← rv.length]
  refine wpAny_bind (wpAny_holding (draw_walk W2 xs.length 0 s2 _ (by rw [hl]; omega) st fun vs h1 tk1 hvl hv st1 hk1 => ?_))
  have ev : vs = its := vals_at rv (by rw [hvl, rv.length]) fun j v hj => by
    have := hv j v hj
    rw [Nat.zero_add] at this
    simpa using this
  subst ev
  rw [if_neg (by rw [← rv.length]; exact Nat.lt_irrefl _)]
  refine wpAny_bind (wpAny_holding (W2.done _ _ _ (by rw [hl]; rw [Nat.zero_add] at st1; exact st1) fun h2 tk2 hk2 => ?_))
  simp only [Option.isSome_none, Bool.false_eq_true, if_false]
  exact wpAny_pure (h _ _ rv (hI h2 tk2 fun b o hb e => hk2 b o hb (hk1 b o hb e)))
def gLst (n : Nat) (t : TGs) : TG := fun v σ H Q => ∃ a xs, v = .ref a ∧ H a = some (.lst xs) ∧ xs.length = n ∧ t xs σ H Q
theorem pg_lst {es : List Expr} {k : Nat} {t : TGs} {pos : Pos} (n : Nat) (hc : X.calm = true) (h : PGs X es t) (hn : (assignEach es X.env).length = n := by rfl) (hst : (assignEach es X.env).findIdx? (·.1) = none := by rfl) : PG X (.Tuple es k pos) (gLst n t) := by
  intro pins s σ H v u Q I r hw
  obtain ⟨a, xs, e1, hq, hl, hw⟩ := hw
  subst e1
  cases r
  rw [PyProof.Rows.assign_Tuple]
  refine wpAny_bind (wpAny_standAt ?_)
  unfold unpack
  rw [hst, hn, ← hl]
  exact wpAny_bind (wpAny_holding (unpack_list hc I hq fun its s' rv I1 => h pins s' σ H xs its Q I1 rv hw))
end
section
variable {σ : St} {H : Hp} {R : St → Hp → Prop}
theorem w_gLst {n : Nat} {t : TGs} {a : Addr} : gLst n t (.ref a) σ H R = ∃ xs, H a = some (.lst xs) ∧ xs.length = n ∧ t xs σ H R :=
  propext ⟨fun ⟨a', xs, e, h, l, q⟩ => by cases e; exact ⟨xs, h, l, q⟩, fun ⟨xs, h, l, q⟩ => ⟨a, xs, rfl, h, l, q⟩⟩
end
def ForE (K : PySem.W.Frag) (a : Addr) (g : TG) (tb : TS) (D : Ends) (σ : St) (H : Hp) : Prop := ∃ W : Nat → Nat → St → Hp → Prop, (∃ m, W 0 m σ H) ∧ ∀ i m σ H, W i m σ H →
  ((Ite K a).stop i H ∧ D.nx σ H) ∨ ((Ite K a).go i H ∧ ∃ N : St → Hp → Prop, (∀ σ' H', N σ' H' → ∃ m', m' < m ∧ W (i + 1) m' σ' H') ∧ ∀ x H', (Ite K a).yld i H x H' → g x σ H' fun σ2 H2 => tb { D with nx := N, ct := N, bk := D.nx } σ2 H2)
section
variable {K : PySem.W.Frag} {σ : St} {H : Hp} {D : Ends} {g : TG} {tb : TS} {a : Addr}
theorem w_forE {ta : TA} : tFor (iEnum K ta) g tb D σ H = (ta σ H fun vs H1 => ∃ a xs, vs = [.ref a] ∧ SqL K H1 a xs ∧ ForE K a g tb D σ H1) := rfl
theorem forE {xs : List V} (Pv : Nat → St → Hp → Prop) (h0 : Pv 0 σ H) (hl : ∀ i σ H, i ≤ xs.length → Pv i σ H → SqL K H a xs)
    (hs : ∀ i x T σ H (N : St → Hp → Prop), xs[i]? = some x → H T = none → Pv i σ H → (∀ σ' H', Pv (i + 1) σ' H' → N σ' H') → g (.ref T) σ (upd H T (.tup [.int (i : Int), x])) fun σ2 H2 => tb { D with nx := N, ct := N, bk := D.nx } σ2 H2)
    (hd : ∀ σ H, Pv xs.length σ H → D.nx σ H) : ForE K a g tb D σ H := by
  refine ⟨fun i m σ H => m = xs.length - i ∧ i ≤ xs.length ∧ Pv i σ H, ⟨_, rfl, Nat.zero_le _, h0⟩, ?_⟩
  rintro i m σ H ⟨rfl, hi, p⟩
  have q := hl i σ H hi p
  by_cases hlt : i < xs.length
  · refine .inr ⟨⟨xs, q, hlt⟩, Pv (i + 1), fun σ' H' p' => ⟨xs.length - (i + 1), by omega, rfl, hlt, p'⟩, fun x H' y => ?_⟩
    obtain ⟨T, u, rfl, hT, rfl, hu⟩ := y
    exact hs i u T σ H (Pv (i + 1)) (hu xs q) hT p fun _ _ z => z
  · have e : i = xs.length := by omega
    subst e
    exact .inl ⟨⟨xs, q, Nat.le_refl _⟩, hd σ H p⟩
end
end L2
set_option Elab.async false
set_option linter.all false
set_option maxRecDepth 100000
set_option maxHeartbeats 1000000
namespace L2
open PySem PySem.Spec
def LPen (H : Hp) (p a : Addr) (c : Int) : Prop := ∃ t l : Int, H p = some (.lst [.ref a, .int t, .int l]) ∧ 0 ≤ t ∧ t ≤ c ∧ 0 ≤ l
theorem LPen.mono {H : Hp} {p a : Addr} {c d : Int} (h : LPen H p a c) (l : c ≤ d) : LPen H p a d := by
  obtain ⟨t, x, e, h0, h1, h2⟩ := h
  exact ⟨t, x, e, h0, by omega, h2⟩
theorem LPen.same {H H' : Hp} {p a : Addr} {c : Int} (h : LPen H p a c) (s : Same H H') : LPen H' p a c := by
  obtain ⟨t, x, e, r⟩ := h
  exact ⟨t, x, s _ _ e, r⟩
theorem LPen.lst {H : Hp} {p a : Addr} {c : Int} (h : LPen H p a c) : ∃ xs, H p = some (.lst xs) := by
  obtain ⟨t, x, e, r⟩ := h
  exact ⟨_, e⟩
theorem LPen.ne {H : Hp} {p a q : Addr} {c : Int} (h : LPen H p a c) (hq : H q = none) : q ≠ p := by
  obtain ⟨xs, h⟩ := h.lst
  exact (ne_of_none h hq).symm
theorem LPen.chg {H H' : Hp} {p a q : Addr} {c : Int} (h : LPen H p a c) (n : p ≠ q) (s : Chg q H H') : LPen H' p a c := by
  obtain ⟨t, x, e, r⟩ := h
  exact ⟨t, x, s _ _ n e, r⟩
theorem lpen_of {H : Hp} {p a : Addr} {t l c : Int} (h0 : 0 ≤ t) (h1 : t ≤ c) (h2 : 0 ≤ l) : LPen (upd H p (.lst [.ref a, .int t, .int l])) p a c := ⟨t, l, upd_same, h0, h1, h2⟩
theorem Scr.lpen {K : PySem.W.Frag} {H H' : Hp} {p a : Addr} {c : Int} {ns : List Int} (h : Scr K H a ns) (hp : LPen H p a c) (s : Chg p H H') : Scr K H' a ns := by
  obtain ⟨xs, e⟩ := hp.lst
  exact h.chg e s
def spLPen (K : PySem.W.Frag) : Sp := fun vs H Q _ => ∃ (a : Addr), vs = [.ref a] ∧ ∀ p H', H p = none → Same H H' → LPen H' p a 0 → Q (.ref p) H'
def spLTake (K : PySem.W.Frag) : Sp := fun vs H Q _ => ∃ (p a : Addr) (ns : List Int) (m c : Int), vs = [.ref p, .int m] ∧ LPen H p a c ∧ Scr K H a ns ∧ ns.length ≤ 63 ∧ c ≤ 1000000000 ∧ 1 ≤ m ∧ m < 2 ^ 64 ∧
  ∀ (r : Int) H', 0 ≤ r → r < m → LPen H' p a (c + 1) → Scr K H' a ns → Chg p H H' → Q (.int r) H'
theorem ltake_ {K : PySem.W.Frag} {H : Hp} {p a : Addr} {ns : List Int} {m c : Int} {Q : VK} {E : XK} (hP : LPen H p a c) (hS : Scr K H a ns) (h63 : ns.length ≤ 63) (hc : c ≤ 1000000000) (h1 : 1 ≤ m) (h2 : m < 2 ^ 64)
    (q : ∀ (r : Int) H', 0 ≤ r → r < m → LPen H' p a (c + 1) → Scr K H' a ns → Chg p H H' → Q (.int r) H') : spLTake K [.ref p, .int m] H Q E := ⟨p, a, ns, m, c, rfl, hP, hS, h63, hc, h1, h2, q⟩
def dvV (d : Nat) : V → Option V := fun x => match x with
  | .int n => if n % (2 * 2 ^ d) ≠ 0 then some (.int n) else none
  | _ => none
theorem dvV_int {d : Nat} {n : Int} : dvV d (.int n) = if n % (2 * 2 ^ d) ≠ 0 then some (.int n) else none := rfl
theorem dvV_map (d : Nat) : ∀ (xs : List Int), (xs.map V.int).filterMap (dvV d) = (xs.filter fun n => decide (n % (2 * 2 ^ d) ≠ 0)).map V.int
  | [] => rfl
  | n :: r => by
    rw [List.map_cons]
    by_cases h : n % (2 * 2 ^ d) = 0
    · rw [List.filterMap_cons_none (by rw [dvV_int, if_neg (by simpa using h)]), dvV_map d r, List.filter_cons_of_neg (by simpa using h)]
    · rw [List.filterMap_cons_some (b := V.int n) (by rw [dvV_int, if_pos h]), dvV_map d r, List.filter_cons_of_pos (by simpa using h)]
      rfl
def mvI (s n : Int) : Int := n * 2 ^ (if 0 > s then (0 : Int) else s).toNat / 2 ^ (if 0 > 0 - s then (0 : Int) else 0 - s).toNat
end L2
set_option Elab.async false
set_option linter.all false
set_option maxRecDepth 100000
set_option maxHeartbeats 1000000
namespace L2
open PySem PySem.Spec
structure Wd where
  w : Str
  a : Nat
  s : Int
  b : Nat
  t : Int
structure Go where
  th : Nat
  sh : Int
  sg : Int
def wTup (d : Wd) : List V := [.str d.w, .int d.a, .int d.s, .int d.b, .int d.t]
def gTp (g : Go) : List V := [.int g.th, .int g.sh, .int g.sg]
structure HTs {α : Type} (f : α → List V) (H : Hp) (vs : List V) (xs : List α) : Prop where
  len : vs.length = xs.length
  at_ : ∀ (k : Nat) (x : α), xs[k]? = some x → ∃ p : Addr, vs[k]? = some (.ref p) ∧ H p = some (.tup (f x))
section
variable {α : Type} {f : α → List V} {H H' : Hp} {vs us : List V} {xs : List α} {l : Addr}
theorem HTs.same (h : HTs f H vs xs) (s : Same H H') : HTs f H' vs xs := ⟨h.len, fun k d e => by
  obtain ⟨x, e1, e2⟩ := h.at_ k d e
  exact ⟨x, e1, s _ _ e2⟩⟩
theorem HTs.chgL (h : HTs f H vs xs) (hl : H l = some (.lst us)) (c : Chg l H H') : HTs f H' vs xs := ⟨h.len, fun k d e => by
  obtain ⟨x, e1, e2⟩ := h.at_ k d e
  exact ⟨x, e1, c _ _ (ne_of e2 hl (by intro z; cases z)) e2⟩⟩
theorem HTs.snoc {x : α} {p : Addr} (h : HTs f H vs xs) (hx : H p = some (.tup (f x))) : HTs f H (vs ++ [.ref p]) (xs ++ [x]) := by
  refine ⟨by simp [h.len], fun k e he => ?_⟩
  rcases get_snoc he with ⟨hk, z⟩ | ⟨hk, rfl⟩
  · obtain ⟨y, e1, e2⟩ := h.at_ k e z
    exact ⟨y, by rw [List.getElem?_append_left (by rw [h.len]; exact hk)]; exact e1, e2⟩
  · refine ⟨p, ?_, hx⟩
    rw [List.getElem?_append_right (by rw [h.len]; omega), h.len, hk, Nat.sub_self]
    rfl
theorem hts_nil : HTs f H [] [] := ⟨rfl, fun k d h => by simp at h⟩
end
structure HRs (H : Hp) (ex : List Addr) (vs : List V) (rs : List (List Int)) : Prop where
  len : vs.length = rs.length
  at_ : ∀ (k : Nat) (r : List Int), rs[k]? = some r → ∃ p : Addr, vs[k]? = some (.ref p) ∧ H p = some (.lst (r.map V.int)) ∧ ∀ e ∈ ex, p ≠ e
section
variable {H H' : Hp} {ex : List Addr} {vs : List V} {rs : List (List Int)} {l : Addr}
theorem HRs.same (h : HRs H ex vs rs) (s : Same H H') : HRs H' ex vs rs := ⟨h.len, fun k d e => by
  obtain ⟨x, e1, e2, e3⟩ := h.at_ k d e
  exact ⟨x, e1, s _ _ e2, e3⟩⟩
theorem HRs.chg (h : HRs H ex vs rs) (hl : l ∈ ex) (c : Chg l H H') : HRs H' ex vs rs := ⟨h.len, fun k d e => by
  obtain ⟨x, e1, e2, e3⟩ := h.at_ k d e
  exact ⟨x, e1, c _ _ (e3 l hl) e2, e3⟩⟩
theorem HRs.new (h : HRs H ex vs rs) (hl : H l = none) : HRs H (l :: ex) vs rs := ⟨h.len, fun k d e => by
  obtain ⟨x, e1, e2, e3⟩ := h.at_ k d e
  refine ⟨x, e1, e2, fun z hz => ?_⟩
  rcases List.mem_cons.mp hz with e | e
  · subst e; exact ne_of_none e2 hl
  · exact e3 z e⟩
theorem HRs.snoc {r : List Int} {p : Addr} (h : HRs H ex vs rs) (hx : H p = some (.lst (r.map V.int))) (he : ∀ e ∈ ex, p ≠ e) : HRs H ex (vs ++ [.ref p]) (rs ++ [r]) := by
  refine ⟨by simp [h.len], fun k e he2 => ?_⟩
  rcases get_snoc he2 with ⟨hk, z⟩ | ⟨hk, rfl⟩
  · obtain ⟨y, e1, e2⟩ := h.at_ k e z
    exact ⟨y, by rw [List.getElem?_append_left (by rw [h.len]; exact hk)]; exact e1, e2⟩
  · refine ⟨p, ?_, hx, he⟩
    rw [List.getElem?_append_right (by rw [h.len]; omega), h.len, hk, Nat.sub_self]
    rfl
theorem hrs_nil : HRs H ex [] [] := ⟨rfl, fun k d h => by simp at h⟩
end
def RB (b : Nat) (rs : List (List Int)) : Prop := ∀ r ∈ rs, r.length ≤ 12 ∧ ∀ n ∈ r, n.natAbs ≤ 2 ^ b
theorem RB.snoc {b c : Nat} {rs : List (List Int)} {r : List Int} (h : RB b rs) (hc : b ≤ c) (hl : r.length ≤ 12) (hr : ∀ n ∈ r, n.natAbs ≤ 2 ^ c) : RB c (rs ++ [r]) := fun q hq => by
  rcases List.mem_append.mp hq with z | z
  · exact ⟨(h q z).1, fun n hn => Nat.le_trans ((h q z).2 n hn) (Nat.pow_le_pow_right (by decide) hc)⟩
  · rw [List.mem_singleton.mp z]; exact ⟨hl, hr⟩
theorem mvI_bound {s n : Int} {b : Nat} (h0 : -40 ≤ s) (h1 : s ≤ 40) (h : n.natAbs ≤ 2 ^ b) : (mvI s n).natAbs ≤ 2 ^ (b + 40) := by
  unfold mvI
  generalize hj : (if 0 > s then (0 : Int) else s).toNat = j
  have hj40 : j ≤ 40 := by rw [← hj]; split <;> omega
  generalize (if 0 > 0 - s then (0 : Int) else 0 - s).toNat = k
  have p := pow_pos2 k
  have h2 : (n * 2 ^ j).natAbs ≤ 2 ^ (b + 40) := by
    rw [Int.natAbs_mul, Int.natAbs_pow]
    refine Nat.le_trans (Nat.mul_le_mul h (Nat.pow_le_pow_right (by decide) hj40 : 2 ^ j ≤ 2 ^ 40)) ?_
    rw [← Nat.pow_add]
    exact Nat.le_refl _
  generalize n * 2 ^ j = x at h2
  refine Nat.le_trans ?_ h2
  have : (x / 2 ^ k).natAbs ≤ x.natAbs := Int.natAbs_ediv_le_natAbs x (2 ^ k)
  exact this
structure WebOk (ins : Nat) (ds : List Wd) (gs : List Go) : Prop where
  i1 : 1 ≤ ins
  i2 : ins ≤ 12
  dk : ∀ (k : Nat) (d : Wd), ds[k]? = some d → d.a < ins + k ∧ d.b < ins + k ∧ (d.w = "sum" ∨ d.w = "less")
  gk : ∀ g ∈ gs, g.th < ins + ds.length
  dl : ds.length ≤ 60
  gl : gs.length ≤ 12
end L2
set_option Elab.async false
set_option linter.all false
set_option maxRecDepth 100000
set_option maxHeartbeats 1000000
namespace L2
open PySem PySem.Spec PyProof.Rows
theorem cf_mem : ∀ (names : List (Str × NameKind)) (n : Nat) (acc : List (Str × Addr)) (p : Str × Addr), p ∈ cellsFrom n names acc → p ∈ acc ∨ ((p.1, NameKind.cell) ∈ names ∧ n ≤ p.2)
  | [], _, _, _, h => .inl h
  | (y, k) :: r, n, acc, p, h => by
    unfold cellsFrom at h
    by_cases hk : (k == .cell) = true
    · rw [if_pos hk] at h
      have ek : k = .cell := by simpa using hk
      subst ek
      rcases cf_mem r (n + 1) _ p h with z | ⟨z, l⟩
      · rcases List.mem_cons.mp z with e | e
        · subst e
          exact .inr ⟨List.mem_cons_self, Nat.le_refl _⟩
        · exact .inl e
      · exact .inr ⟨List.mem_cons_of_mem _ z, Nat.le_of_succ_le l⟩
    · rw [if_neg hk] at h
      rcases cf_mem r n acc p h with z | ⟨z, l⟩
      · exact .inl z
      · exact .inr ⟨List.mem_cons_of_mem _ z, l⟩
theorem cf_inj : ∀ (names : List (Str × NameKind)) (n lo : Nat) (acc : List (Str × Addr)), lo ≤ n → (∀ p ∈ acc, (p.2 : Nat) < n) → (∀ (x y : Str) (c : Addr), (x, c) ∈ acc → (y, c) ∈ acc → lo ≤ c → x = y) →
    ∀ (x y : Str) (c : Addr), (x, c) ∈ cellsFrom n names acc → (y, c) ∈ cellsFrom n names acc → lo ≤ c → x = y
  | [], _, _, _, _, _, hi, x, y, c, h1, h2, l => hi x y c h1 h2 l
  | (z, k) :: r, n, lo, acc, hl, hn, hi, x, y, c, h1, h2, l => by
    unfold cellsFrom at h1 h2
    by_cases hk : (k == .cell) = true
    · rw [if_pos hk] at h1 h2
      refine cf_inj r (n + 1) lo _ (Nat.le_succ_of_le hl) (fun p hp => ?_) (fun x y c a b l => ?_) x y c h1 h2 l
      · rcases List.mem_cons.mp hp with e | e
        · subst e; exact Nat.lt_succ_self _
        · exact Nat.lt_succ_of_lt (hn p e)
      · rcases List.mem_cons.mp a with e | e <;> rcases List.mem_cons.mp b with e' | e'
        · rw [(Prod.mk.inj e).1, (Prod.mk.inj e').1]
        · have := hn _ e'
          rw [(Prod.mk.inj e).2] at this
          exact absurd this (Nat.lt_irrefl _)
        · have := hn _ e
          rw [(Prod.mk.inj e').2] at this
          exact absurd this (Nat.lt_irrefl _)
        · exact hi x y c e e' l
    · rw [if_neg hk] at h1 h2
      exact cf_inj r n lo acc hl hn hi x y c h1 h2 l
theorem cf_keep {x : Str} {c : Addr} : ∀ (names : List (Str × NameKind)) (n : Nat) (acc : List (Str × Addr)), acc.lookup x = some c → (x, NameKind.cell) ∉ names → (cellsFrom n names acc).lookup x = some c
  | [], _, _, h, _ => h
  | (y, k) :: r, n, acc, h, hm => by
    unfold cellsFrom
    have hr : (x, NameKind.cell) ∉ r := fun z => hm (List.mem_cons_of_mem _ z)
    by_cases hk : (k == .cell) = true
    · rw [if_pos hk]
      have ek : k = .cell := by simpa using hk
      subst ek
      refine cf_keep r (n + 1) _ ?_ hr
      rw [List.lookup_cons]
      have hne : (x == y) = false := by
        cases e : x == y with
        | false => rfl
        | true => rw [beq_iff_eq.mp e] at hm; exact absurd List.mem_cons_self hm
      rw [hne]
      exact h
    · rw [if_neg hk]
      exact cf_keep r n acc h hr
theorem cf_new : ∀ (names : List (Str × NameKind)) (h : Heap) (acc : List (Str × Addr)) (p : Str × Addr), p ∈ cellsFrom h.objs.size names acc → p ∈ acc ∨ (pushCells h names).IsCell p.2 none
  | [], _, _, _, h => .inl h
  | (y, k) :: r, h, acc, p, hp => by
    unfold cellsFrom at hp
    unfold pushCells
    by_cases hk : (k == .cell) = true
    · rw [if_pos hk] at hp ⊢
      have := cf_new r (h.push { cls := .type "cell", data := .cell none }) ((y, h.objs.size) :: acc) p (by rw [Heap.size_push]; exact hp)
      rcases this with z | z
      · rcases List.mem_cons.mp z with e | e
        · subst e
          exact .inr ⟨_, pushCells_keeps r _ _ _ (Heap.get?_push_size _ rfl), rfl⟩
        · exact .inl e
      · exact .inr z
    · rw [if_neg hk] at hp ⊢
      exact cf_new r h acc p hp
theorem mem_clos2 {scope : Scope} {env : Env} {x : Str} {c : Addr} (m : (x, c) ∈ closOf scope env) : env.cells.lookup x = some c ∧ (x, NameKind.free) ∈ scope.names := by
  unfold closOf at m
  rw [List.mem_reverse, List.mem_filterMap] at m
  obtain ⟨⟨n, k⟩, hy, e⟩ := m
  split at e
  · rename_i hk
    have hk : k = .free := by simpa using hk
    subst hk
    cases q : env.cells.lookup n with
    | none => rw [q] at e; cases e
    | some d =>
      rw [q] at e
      simp only [Option.map_some, Option.some.injEq, Prod.mk.injEq] at e
      rw [← e.1, q, e.2]
      exact ⟨rfl, hy⟩
  · cases e
def compEnvK (scope : Scope) (cl : List (Str × Addr)) (C : Addr) (env : Env) : Env :=
  { scope := relabel scope env, locals := C, globals := env.globals, cells := cellsFrom (C + 1) scope.names cl, qual := env.qual, func := none, code := env.code, frame := env.frame, builtins := env.builtins }
def nfeH (h : Heap) (names : List (Str × NameKind)) : Heap := pushCells (h.push { cls := .type "dict", data := .dict #[] }) names
theorem nfe_cells {M : Model} {A : Around} {E : Value → Shared → Prop} {s : Shared} {scope : Scope} {globals : Addr} {cl : List (Str × Addr)} {qual : Str} {env : Env} {Q : Env → Shared → Prop}
    (hQ : Q { scope := scope, locals := s.heap.objs.size, globals := globals, cells := cellsFrom (s.heap.objs.size + 1) scope.names cl, qual := qual, func := none, code := env.code, frame := env.frame, builtins := env.builtins } { s with heap := nfeH s.heap scope.names }) :
    wpAny M A (newFunctionEnv scope globals cl [] qual none .none (some env)) Q E s := by
  simp only [newFunctionEnv, Option.isSome_some, if_true]
  refine wpAny_bind (wpAny_alloc ?_)
  refine wpAny_bind (wpAny_layCells _ (fun name kind cells => by cases hkc : kind == NameKind.cell <;> simp [hkc]) _ _ _ _ ?_)
  rw [show ({ s with heap := s.heap.push { cls := .type "dict", data := .dict #[] } } : Shared).heap.objs.size = s.heap.objs.size + 1 from Heap.size_push ..]
  rw [List.forIn_nil]
  exact wpAny_bind (wpAny_pure (wpAny_pure hQ))
def compCxC (X : Cx) (N : List Str) (scope : Scope) (C : Addr) (s : Shared) (H : Hp) (fp : List Addr) : Cx :=
  { X with N := N, s₀ := s, H₀ := H, env := compEnvK scope (closOf scope X.env) C X.env, outer := X.stack, stack := X.stack, ex := fp, fn := fun x => scope.names.lookup x == some .cell, pn := [], xe := fun _ _ => False }
def scC (sc xsc : Scope) : Bool := (sc.kind == .function) && sc.names.all fun x => (x.2 != .cell || sc.names.lookup x.1 == some .cell) && (x.2 != .local || sc.names.lookup x.1 == some .local) && (x.2 != .free || ((sc.names.lookup x.1 == some .free) && ((xsc.names.lookup x.1 == some .cell) || (xsc.names.lookup x.1 == some .free))))
section
variable {X : Cx}
theorem compCxC_inv {pins : List (Addr × Obj)} {σ : St} {H : Hp} {s : Shared} {N : List Str} {scope : Scope} {nt : Nat} {cs : List Nat} {fp : List Addr} {tk : Nat} (I : Inv X pins σ H s)
    (hsc : scC scope X.env.scope = true) (hcap : capB cs (N.drop nt) X.N scope X.env.scope = true) (hlen : N.length = nt + cs.length)
    (hf : ∀ b ∈ fp, FpOk X pins H b) (hfl : ∀ b ∈ fp, b < s.heap.objs.size) :
    Inv (compCxC X N scope s.heap.objs.size s H fp) [] (capSt nt cs σ) H { s with heap := nfeH s.heap scope.names, toks := tk } := by
  have hk : ∀ b o, s.heap.get? b = some o → (nfeH s.heap scope.names).get? b = some o := fun b o e => pushCells_keeps _ _ b o (Heap.get?_push_of_some _ e)
  have hn : (nfeH s.heap scope.names).Ns s.heap.objs.size fun _ => none := (Heap.Ns.new s.heap (.type "dict")).keeps (pushCells_keeps _ _)
  unfold scC at hsc
  rw [Bool.and_eq_true] at hsc
  obtain ⟨hkd, hall⟩ := hsc
  have hkd : scope.kind = .function := by simpa using hkd
  rw [List.all_eq_true] at hall
  have cellL : ∀ x, (x, NameKind.cell) ∈ scope.names → scope.names.lookup x = some .cell := fun x hx => by
    have := hall _ hx
    simp only [bne_self_eq_false, Bool.false_or, Bool.and_eq_true, beq_iff_eq] at this
    exact this.1.1
  have freeL : ∀ x, (x, NameKind.free) ∈ scope.names → scope.names.lookup x = some .free := fun x hx => by
    have := hall _ hx
    simp only [bne_self_eq_false, Bool.false_or, Bool.and_eq_true, beq_iff_eq] at this
    exact this.2.1
  have free2 : ∀ x, (x, NameKind.free) ∈ scope.names → X.env.kindOf x = some .cell ∨ X.env.kindOf x = some .free := fun x hx => by
    have := hall _ hx
    simp only [bne_self_eq_false, Bool.false_or, Bool.and_eq_true, Bool.or_eq_true, beq_iff_eq] at this
    exact this.2.2
  have kinds : ∀ x, ((compCxC X N scope s.heap.objs.size s H fp).env.kindOf x = some .cell ∨ (compCxC X N scope s.heap.objs.size s H fp).env.kindOf x = some .free) → scope.names.lookup x = some .cell ∨ (x, NameKind.free) ∈ scope.names := fun x hx => by
    have q : ∃ k, (relabel scope X.env).names.lookup x = some k ∧ (k = .cell ∨ k = .free) := by
      rcases hx with e | e
      · exact ⟨_, e, .inl rfl⟩
      · exact ⟨_, e, .inr rfl⟩
    obtain ⟨k, e, hk'⟩ := q
    obtain ⟨k0, e0, r⟩ := relabel_lookup e
    have m := PySem.mem_of_lookup e0
    rcases r with r | ⟨r, _⟩
    · subst r
      rcases hk' with z | z
      · rw [z] at e0; exact .inl e0
      · rw [z] at m; exact .inr m
    · rw [r] at m; exact .inr m
  have clt : ∀ x c, X.env.cells.lookup x = some c → c < s.heap.objs.size := fun x c e => by
    obtain ⟨v, q⟩ := I.cell x c e
    exact q.lt
  -- a cell of the block: one of the caller's, or one of its own
  have two : ∀ x c, (compCxC X N scope s.heap.objs.size s H fp).env.cells.lookup x = some c → (X.env.cells.lookup x = some c ∧ (x, NameKind.free) ∈ scope.names) ∨ ((x, NameKind.cell) ∈ scope.names ∧ s.heap.objs.size + 1 ≤ c ∧ (nfeH s.heap scope.names).IsCell c none) := fun x c e => by
    have m := PySem.mem_of_lookup e
    rcases cf_mem _ _ _ _ m with z | ⟨z, l⟩
    · exact .inl (mem_clos2 z)
    · refine .inr ⟨z, l, ?_⟩
      have m' : (x, c) ∈ cellsFrom (s.heap.push { cls := .type "dict", data := .dict #[] }).objs.size scope.names (closOf scope X.env) := by rw [Heap.size_push]; exact m
      rcases cf_new _ _ _ _ m' with q | q
      · have := clt x c (mem_clos2 q).1
        exact absurd (Nat.lt_of_lt_of_le this (Nat.le_of_succ_le l)) (Nat.lt_irrefl _)
      · exact q
  refine ⟨⟨I.ok.mod, ?_, I.ok.glob, I.ok.blt, Nat.le_refl _, ?_, ?_, ?_, I.ok.hd, I.ok.frames, .inl rfl, ?_, ?_, ?_, ?_, ?_, ?_, ?_⟩, rfl, I.bare, Un.kept hk, ⟨_, hn, ?_⟩, ?_, ?_, ?_, ?_, I.hok.kept hk, ?_⟩
  · show (relabel scope X.env).kind = _
    exact hkd
  · intro x y c e1 e2
    rcases two x c e1 with ⟨a, _⟩ | ⟨_, a, _⟩ <;> rcases two y c e2 with ⟨b, _⟩ | ⟨_, b, _⟩
    · exact I.ok.inj x y c a b
    · exact absurd (Nat.lt_of_lt_of_le (clt x c a) (Nat.le_of_succ_le b)) (Nat.lt_irrefl _)
    · exact absurd (Nat.lt_of_lt_of_le (clt y c b) (Nat.le_of_succ_le a)) (Nat.lt_irrefl _)
    · refine cf_inj scope.names (s.heap.objs.size + 1) (s.heap.objs.size + 1) (closOf scope X.env) (Nat.le_refl _) (fun p hp => Nat.lt_succ_of_lt (clt p.1 p.2 (mem_clos2 hp).1)) (fun x y c h1 h2 l => ?_) x y c (PySem.mem_of_lookup e1) (PySem.mem_of_lookup e2) a
      exact absurd (Nat.lt_of_lt_of_le (clt x c (mem_clos2 h1).1) (Nat.le_of_succ_le l)) (Nat.lt_irrefl _)
  · intro x hx
    rcases kinds x hx with m | m
    · exact Option.isSome_iff_exists.mp (PySem.W.cellsFrom_some scope.names (s.heap.objs.size + 1) (closOf scope X.env) (.inl m))
    · obtain ⟨c, hc⟩ := I.ok.has x (free2 x m)
      exact Option.isSome_iff_exists.mp (PySem.W.cellsFrom_some scope.names (s.heap.objs.size + 1) (closOf scope X.env) (.inr (by rw [clos_has m hc]; rfl)))
  · intro x c z e
    have z : scope.names.lookup x = some .cell := by simpa [compCxC] using z
    rcases two x c e with ⟨_, m⟩ | ⟨_, l, _⟩
    · have := freeL x m
      rw [z] at this
      cases this
    · exact Nat.le_of_succ_le l
  · intro b hb
    obtain ⟨f0, f1, f2, f3, f4, f5⟩ := hf b hb
    refine ⟨Nat.ne_of_lt (hfl b hb), fun x c e => ?_⟩
    rcases two x c e with ⟨a, _⟩ | ⟨_, l, _⟩
    · exact f4 x c a
    · exact fun z => absurd (Nat.lt_of_lt_of_le (hfl b hb) (Nat.le_of_succ_le (z ▸ l))) (Nat.lt_irrefl _)
  · intro b o e
    exact I.bs b o e
  · exact Nat.le_trans I.ok.bsz I.sz
  · intro b o e hb
    obtain ⟨f0, f1, f2, f3, f4, f5⟩ := hf b hb
    rcases f3 with z | z
    · exact I.ok.noex b o e z
    · exact absurd (Nat.lt_of_lt_of_le (Heap.lt_size (I.ok.bs b o e).1) z) (Nat.lt_irrefl _)
  · intro b hb hs
    obtain ⟨f0, f1, f2, f3, f4, f5⟩ := hf b hb
    rcases List.mem_cons.mp (I.stkSub b hs) with z | z
    · exact f1 z
    · exact f2 z
  · exact I.stack
  · exact I.stkFree
  · intro i x v e1 e2 _
    have hi : nt ≤ i := by
      refine Nat.le_of_not_lt fun z => ?_
      unfold capSt at e2
      rw [List.getElem?_append_left (by simpa using z), List.getElem?_replicate, if_pos z] at e2
      cases e2
    unfold capSt at e2
    rw [List.getElem?_append_right (by simpa using hi), List.length_replicate, List.getElem?_map] at e2
    cases q : cs[i - nt]? with
    | none => rw [q] at e2; cases e2
    | some c =>
      rw [q] at e2
      simp only [Option.map_some, Option.some.injEq] at e2
      have e3 : σ[c]? = some (some v) := by
        cases z : σ[c]? with
        | none => rw [z] at e2; cases e2
        | some o => rw [z] at e2; exact congrArg some e2
      unfold capB at hcap
      rw [List.all_eq_true] at hcap
      have e4 : (N.drop nt)[i - nt]? = some x := by
        rw [List.getElem?_drop, show nt + (i - nt) = i by omega]
        exact e1
      have m : (c, x) ∈ cs.zip (N.drop nt) := by
        have : (cs.zip (N.drop nt))[i - nt]? = some (c, x) := by rw [List.getElem?_zip_eq_some]; exact ⟨q, e4⟩
        exact List.mem_of_getElem? this
      have hm := hcap _ m
      simp only [Bool.and_eq_true, beq_iff_eq, bne_iff_ne, ne_eq] at hm
      obtain ⟨⟨h1', h2'⟩, h3'⟩ := hm
      have hlk : scope.names.lookup x = some .free := h2'
      have h2' : (x, NameKind.free) ∈ scope.names := PySem.mem_of_lookup hlk
      have nocell : (x, NameKind.cell) ∉ scope.names := fun z => by
        have := cellL x z
        rw [hlk] at this
        cases this
      obtain ⟨mm, hmm, hl⟩ := I.loc
      have vis : Vis X.env.scope x := .inr (free2 x h2')
      obtain ⟨u, r, l⟩ := hl c x v h1' e3 vis
      rcases l with ⟨z, _⟩ | ⟨z, d, hd, hcell⟩
      · exact absurd z h3'
      · refine ⟨u, r, .inr ⟨?_, d, cf_keep _ _ _ (clos_has h2' hd) nocell, ?_⟩⟩
        · have isf : ∃ k, (relabel scope X.env).names.lookup x = some k := by
            have : ∃ k', (x, k') ∈ (relabel scope X.env).names := by
              unfold relabel
              by_cases cc : (X.env.scope.kind == .function && X.env.kindOf x == some .cell) = true
              · refine ⟨.cell, List.mem_map.mpr ⟨(x, .free), h2', ?_⟩⟩
                simp only [Bool.and_eq_true] at cc
                simp [cc.1, cc.2]
              · refine ⟨.free, List.mem_map.mpr ⟨(x, .free), h2', ?_⟩⟩
                simp only [Bool.and_eq_true] at cc
                have cc' : ¬ ((NameKind.free == NameKind.free && X.env.scope.kind == .function && X.env.kindOf x == some .cell) = true) := by
                  simp only [beq_self_eq_true, Bool.true_and, Bool.and_eq_true]
                  exact cc
                show (if (NameKind.free == NameKind.free && X.env.scope.kind == .function && X.env.kindOf x == some .cell) = true then (x, NameKind.cell) else (x, NameKind.free)) = (x, NameKind.free)
                rw [if_neg cc']
            obtain ⟨k', hk'⟩ := this
            exact lookup_mem hk'
          obtain ⟨k, ek⟩ := isf
          obtain ⟨k0, e0, rr⟩ := relabel_lookup ek
          rcases rr with rr | ⟨_, rr⟩
          · subst rr
            rw [hlk] at e0
            cases e0
            exact .inr ek
          · subst rr
            exact .inl ek
        · obtain ⟨o, ho, hd'⟩ := hcell
          exact ⟨o, hk _ _ ho, hd'⟩
  · intro x c e
    rcases two x c e with ⟨a, _⟩ | ⟨_, _, a⟩
    · obtain ⟨v, o, ho, hd⟩ := I.cell x c a
      exact ⟨v, o, hk _ _ ho, hd⟩
    · exact ⟨none, a⟩
  · exact I.hok.fresh (Nat.le_refl _)
  · intro x c e
    rcases two x c e with ⟨a, _⟩ | ⟨_, l, _⟩
    · exact I.freeC x c a
    · exact I.hok.fresh (Nat.le_of_succ_le l)
  · intro p hp
    cases hp
  · show (capSt nt cs σ).length = N.length
    unfold capSt
    rw [List.length_append, List.length_replicate, List.length_map, hlen]
theorem compC_core {use : Option (Value → Sem Unit)} {QQ : Value → Shared → Prop} {ipos : Pos} {tg iter elt : Expr} {ifs : List Expr} {scope : Scope} {pos : Pos} {wi : TI} {N : List Str} {nt : Nat} {cs : List Nat} {g : TG} {tt : TT} {te : TE} (hc : X.calm = true) (hi : PI X tg iter wi)
    (hb : N.Nodup → ∀ (C : Addr) (s : Shared) (H : Hp) (fp : List Addr), CompBody (compCxC X N scope C s H fp) tg ifs elt g tt te)
    (hnd : N.Nodup) (hsc : scC scope X.env.scope = true) (hcap : capB cs (N.drop nt) X.N scope X.env.scope = true) (hlen : N.length = nt + cs.length)
    (hs : ∀ x, foldedSetIterable iter X.env x = pure x) {pins : List (Addr × Obj)} {s : Shared} {σ : St} {H : Hp} {Q : V → Hp → Prop} (I : Inv X pins σ H s) (h : tComp wi nt cs g tt te σ H Q)
    (hfin : ∀ {acc : Addr} {fp : List Addr} {HX : Hp} {sx : Shared} {σ' : St} {H' : Hp} {s' : Shared}, Inv X pins σ HX sx → (∀ b ∈ fp, FpOk X pins HX b) → Inv (compCxC X N scope sx.heap.objs.size sx HX fp) [] σ' H' s' → Q (.ref acc) H' → compPost (model X.prog X.w) X.A X.xe use QQ (.ref acc) sx.heap.objs.size (.ok .next) s') :
    wpAny (model X.prog X.w) X.A (comprehension (.ListComp elt [⟨tg, iter, ifs, 0⟩] scope pos) scope X.env ipos (newList []) false (eval iter X.env) use) QQ X.xe s := by
  have hsc' := hsc
  unfold scC at hsc'
  rw [Bool.and_eq_true] at hsc'
  obtain ⟨hkd, hall⟩ := hsc'
  have hkd : scope.kind = .function := by simpa using hkd
  rw [List.all_eq_true] at hall
  have hnames : ∀ x ∈ scope.names, x.2 = .local → scope.names.lookup x.1 = some .local := fun x hx e => by
    have := hall x hx
    rw [e] at this
    simp only [bne_self_eq_false, Bool.false_or, Bool.and_eq_true, beq_iff_eq] at this
    exact this.1.2
  have hclos : closureFor scope X.env = pure (closOf scope X.env) := closureFor_ok fun x hx e => by
    have := hall x hx
    rw [e] at this
    simp only [bne_self_eq_false, Bool.false_or, Bool.and_eq_true, Bool.or_eq_true, beq_iff_eq] at this
    exact I.ok.has x.1 this.2.2
  refine wpAny_comprehension_free (use := use) rfl hs hclos hkd hnames (thn (hi pins s σ H _ I h) fun v s1 h1 => thn h1 fun itv s2 h2 => ?_)
  obtain ⟨it, fp, tn, J, H2, e, I2, T, st2, f2, hR⟩ := h2
  subst e
  refine wpAny_newObj_type (nfe_cells ?_)
  have fr := I2.fresh
  have I3 : Inv X pins σ (upd H2 s2.heap.objs.size (.lst [])) { s2 with heap := s2.heap.push { cls := .type "list", data := .seq ([] : List Value).toArray }, toks := s2.toks } := I2.lnew .nil (le_size (by decide))
  obtain ⟨W, ⟨m0, w0⟩, turn⟩ := hR _ fr
  generalize hacc : s2.heap.objs.size = acc at *
  generalize hsx : ({ s2 with heap := s2.heap.push { cls := .type "list", data := .seq ([] : List Value).toArray }, toks := s2.toks } : Shared) = sx at *
  have hC : sx.heap.objs.size = acc + 1 := by rw [← hsx, ← hacc]; exact Heap.size_push _ _
  have fpl : ∀ b ∈ fp, b < acc := fun b hb => by
    obtain ⟨o, ho, _⟩ := T.obj _ _ st2 b hb
    rw [← hacc]
    exact Heap.lt_size ho
  have f3 : ∀ b ∈ fp, FpOk X pins (upd H2 acc (.lst [])) b := fun b hb => by
    obtain ⟨f0, f1⟩ := f2 b hb
    exact ⟨by rw [upd_ne (Nat.ne_of_lt (fpl b hb))]; exact f0, f1⟩
  have keep3 : ∀ b o, sx.heap.get? b = some o → (nfeH sx.heap scope.names).get? b = some o := fun b o e => pushCells_keeps _ _ b o (Heap.get?_push_of_some _ e)
  have hn3 : (nfeH sx.heap scope.names).Ns sx.heap.objs.size fun _ => none := (Heap.Ns.new sx.heap (.type "dict")).keeps (pushCells_keeps _ _)
  have IC : Inv (compCxC X N scope sx.heap.objs.size sx (upd H2 acc (.lst [])) fp) [] (capSt nt cs σ) (upd H2 acc (.lst [])) { sx with heap := nfeH sx.heap scope.names, toks := sx.toks } :=
    compCxC_inv (tk := sx.toks) I3 hsc hcap hlen f3 (fun b hb => by rw [hC]; exact Nat.lt_succ_of_lt (fpl b hb))
  have hn3' : H2 acc = none := fr
  generalize hXC : compCxC X N scope sx.heap.objs.size sx (upd H2 acc (.lst [])) fp = XC at IC
  have ctxP : XC.prog = X.prog := by rw [← hXC]; rfl
  have ctxW : XC.w = X.w := by rw [← hXC]; rfl
  have ctxK : XC.K = X.K := by rw [← hXC]; rfl
  have ctxA : XC.A = X.A := by rw [← hXC]; rfl
  have ctxC : XC.calm = true := by rw [← hXC]; exact hc
  have ctxX : XC.xe = fun _ _ => False := by rw [← hXC]; rfl
  have ctxE : XC.env = compEnvK scope (closOf scope X.env) sx.heap.objs.size X.env := by rw [← hXC]; rfl
  have body : CompBody XC tg ifs elt g tt te := by rw [← hXC]; exact hb hnd _ _ _ _
  have st3 : tn 0 (nfeH sx.heap scope.names) := T.keep _ _ _ st2 fun b hb o e => keep3 b o (by rw [← hsx]; exact Heap.get?_push_of_some _ e)
  have stat : ∀ {H' : Hp}, (∀ b ∈ fp, H' b = none) → ∀ b ∈ fp, FpOk XC [] H' b := fun hn b hb => by
    obtain ⟨f0, f1, f2', f3', f4, f5⟩ := f3 b hb
    refine ⟨hn b hb, ?_, ?_, .inl (by rw [← hXC]; exact hb), fun x c e => ?_, fun p hp => ?_⟩
    · rw [ctxE]
      exact Nat.ne_of_lt (by rw [hC]; exact Nat.lt_succ_of_lt (fpl b hb))
    · rw [← hXC]
      intro z
      rcases List.mem_cons.mp (I3.stkSub b z) with z | z
      · exact f1 z
      · exact f2' z
    · rw [ctxE] at e
      rcases cf_mem _ _ _ _ (PySem.mem_of_lookup e) with z | ⟨_, z⟩
      · exact f4 x c (mem_clos2 z).1
      · have h9 := fpl b hb
        have z : sx.heap.objs.size + 1 ≤ c := z
        rw [hC] at z
        exact Nat.ne_of_gt (Nat.lt_of_lt_of_le h9 (Nat.le_of_succ_le (Nat.le_of_succ_le z)))
    · rw [← hXC] at hp
      cases hp
  have fin : ∀ {σ' : St} {H' : Hp} {s' : Shared}, Inv XC [] σ' H' s' → Q (.ref acc) H' → compPost (model X.prog X.w) X.A X.xe use QQ (.ref acc) sx.heap.objs.size (.ok .next) s' := fun {σ' H' s'} J' q => hfin I3 f3 (by rw [hXC]; exact J') q
  have loop : codeAny (model X.prog X.w) X.A (.compLoop (.ListComp elt [⟨tg, iter, ifs, 0⟩] scope pos) 0 (.ref it) (.ref acc) XC.env) (compPost (model X.prog X.w) X.A X.xe use QQ (.ref acc) sx.heap.objs.size)
      { sx with heap := nfeH sx.heap scope.names, toks := sx.toks } := by
    rw [← ctxP, ← ctxW, ← ctxA]
    refine codeAny_compLoop_gen (fun n s' => ∃ i ys σ' H', Inv XC [] σ' H' s' ∧ tn i s'.heap ∧ (∀ b ∈ fp, H' b = none) ∧ W i n ys σ' H') ?_ m0 ⟨0, [], _, _, IC, st3, fun b hb => (f3 b hb).1, w0⟩
    rintro n s3 ⟨i, ys, σ3, H3, I3', st3', fr3, w3⟩
    have T' := T
    rw [← ctxP, ← ctxW, ← ctxK] at T'
    obtain ⟨hacc3, alt⟩ := turn i n ys σ3 H3 w3
    rcases alt with ⟨stop, qn⟩ | ⟨go, hsz, NN, hNN, step⟩
    · refine thn (T'.done XC rfl rfl rfl ctxC i [] s3 σ3 H3 _ I3' (stat fr3) st3' stop) fun r s4 ⟨hr, I4⟩ => ?_
      subst hr
      rw [ctxP, ctxW, ctxA]
      exact fin I4 qn
    · refine thn (T'.item XC rfl rfl rfl ctxC i [] s3 σ3 H3 _ I3' (stat fr3) st3' go) fun r s4 ⟨u, hr, h4⟩ => ?_
      subst hr
      refine thn h4 fun _ s5 ⟨x, H5, I5, r5, y5, st5, fr5⟩ => ?_
      have I5' := I5.pinned (stat fr5) (T'.obj _ _ st5)
      have a1 := body.tg _ s5 σ3 H5 x u _ I5' r5 (step x H5 y5)
      rw [ctxX] at a1
      refine thn a1 fun _ s6 ⟨σ6, H6, I6, q6⟩ => ?_
      have a2 := body.tt _ s6 σ6 H6 _ I6 q6
      rw [ctxX] at a2
      refine thn a2 fun b s7 ⟨H7, I7, q7⟩ => ?_
      have again : ∀ {s8 : Shared} {σ7 : St} {H7 : Hp} {zs : List V}, Inv XC ([] ++ pinsAt fp s5.heap) σ7 H7 s8 → NN zs σ7 H7 → ∃ m, m < n ∧ ∃ i ys σ' H', Inv XC [] σ' H' s8 ∧ tn i s8.heap ∧ (∀ b ∈ fp, H' b = none) ∧ W i m ys σ' H' := fun {s8 σ7 H7 zs} I7 n7 => by
        obtain ⟨m', hm, w7⟩ := hNN zs σ7 H7 n7
        refine ⟨m', hm, i + 1, zs, σ7, H7, I7.unpinned, T'.keep _ _ _ st5 fun b hb o e => (I7.pin (b, o) (List.mem_append_right _ (List.mem_append_right _ (mem_pinsAt hb e)))).1, fun b hb => ?_, w7⟩
        obtain ⟨o, e, d⟩ := T'.obj _ _ st5 b hb
        exact (I7.pin (b, o) (List.mem_append_right _ (List.mem_append_right _ (mem_pinsAt hb e)))).2.1
      cases b with
      | false =>
        rw [if_neg Bool.false_ne_true] at q7 ⊢
        exact again I7 q7
      | true =>
        rw [if_pos rfl] at q7 ⊢
        have a3 := body.te _ s7 σ6 H7 _ I7 q7
        rw [ctxX] at a3
        refine thn a3 fun xv s8 ⟨y, H8, I8, r8, q8⟩ => ?_
        obtain ⟨hl8, n8⟩ := q8
        have a4 := mt_append (X := XC) _ s8 σ6 H8 (.ref acc) [y] (.ref acc) [xv] (fun _ H9 => NN (ys ++ [y]) σ6 H9) I8 rfl (.cons r8 .nil) ⟨acc, ys, y, rfl, rfl, hl8, hsz, n8⟩
        rw [ctxX] at a4
        refine thn a4 fun _ s9 ⟨_, H9, I9, _, q9⟩ => ?_
        exact again I9 q9
  rw [ctxE] at loop
  exact codeAny_compStart_list loop (T.self X.A 0 _ _ _ st3 loop)
theorem ps_setCompC {y : Str} {py spos : Pos} {ix : Nat} {tg iter elt : Expr} {ifs : List Expr} {scope : Scope} {pos : Pos} {wi : TI} {N : List Str} {nt : Nat} {cs : List Nat} {g : TG} {tt : TT} {te : TE} (hc : X.calm = true) (hi : PI X tg iter wi)
    (hb : N.Nodup → ∀ (C : Addr) (s : Shared) (H : Hp) (fp : List Addr), CompBody (compCxC X N scope C s H fp) tg ifs elt g tt te)
    (hnd : N.Nodup) (hsc : scC scope X.env.scope = true) (hcap : capB cs (N.drop nt) X.N scope X.env.scope = true) (hlen : N.length = nt + cs.length)
    (hs : ∀ x, foldedSetIterable iter X.env x = pure x) (hN : X.N.Nodup) (hix : X.N[ix]? = some y) (hy : Loc X.env.scope y) (hf : X.fn y = true ∨ X.env.scope.names.lookup y = some .local)
    (hsw : swapsWith (.ListComp elt [⟨tg, iter, ifs, 0⟩] scope pos) (some (.Name y py)) spos.line X.env = pure true) : PS X (.Assign [.Name y py] (.ListComp elt [⟨tg, iter, ifs, 0⟩] scope pos) spos) (tAsg (tComp wi nt cs g tt te) (gName ix)) := by
  intro pins s σ H D I h
  rw [exec_Assign_Name_used _ _ _ _ hsw]
  refine wpAny_bind (wpAny_standAt (wpAny_bind ?_))
  show wpAny _ X.A (do let _ ← comprehension (.ListComp elt [⟨tg, iter, ifs, 0⟩] scope pos) scope X.env _ (newList []) false (eval iter X.env) (some (assign (.Name y py) X.env))) _ _ s
  refine wpAny_bind (wpAny_mono (compC_core (use := some (assign (.Name y py) X.env)) (QQ := fun _ s' => SP X pins D .next s') hc hi hb hnd hsc hcap hlen hs I h fun {acc fp HX sx σ' H' s'} I3 f3 J' q => ?_) (fun _ s' hq => wpAny_pure (wpAny_pure hq)) fun _ _ e => e)
  obtain ⟨m, hm, _⟩ := J'.loc
  have IX : Inv X pins σ H' s' := I3.call' J'.os J'.base J'.hok J'.bare fun b hb => by
    obtain ⟨f0, f1, f2', f3', f4, f5⟩ := f3 b hb
    exact ⟨f3', f1, f4, f5⟩
  have hCL : sx.heap.objs.size ≠ X.env.locals := Nat.ne_of_gt I3.lt
  have hCc : ∀ x c, X.env.cells.lookup x = some c → c ≠ sx.heap.objs.size := fun x c e => by
    obtain ⟨v, z⟩ := I3.cell x c e
    exact Nat.ne_of_lt z.lt
  have hCp : ∀ p ∈ X.pn ++ pins, p.1 ≠ sx.heap.objs.size := fun p hp => Nat.ne_of_lt (Heap.lt_size (I3.pin p hp).1)
  show wpAny _ X.A (assign (.Name y py) X.env (.ref acc)) _ _ s'
  refine wpAny_assign_Name (store_ok2 IX hN hix hy (v := .ref acc) rfl (fun s'' I'' ⟨a, hsb, ha⟩ => ?_) hf)
  have hCa : sx.heap.objs.size ≠ a := fun z => by
    rcases ha with e | e
    · exact hCL (z.trans e)
    · exact hCc _ _ e z.symm
  refine ⟨m, hm.sameBut hsb hCa, fun h' hs' => ⟨_, H', ?_, q⟩⟩
  exact I''.turned (t' := s''.toks) (fun b o hb e => (hs'.2 b hb).trans e) J'.free hCL (.inr I3.sz) hCc hCp
end
end L2
set_option Elab.async false
set_option linter.all false
set_option maxRecDepth 100000
set_option maxHeartbeats 1000000
namespace L2
open PySem PySem.Spec
theorem Chg.updN {p q : Addr} {H H' : Hp} {o : HO} (c : Chg p H H') (h : H q = none) : Chg p H (L2.upd H' q o) := fun b u n e => by rw [upd_ne (ne_of_none e h)]; exact c b u n e
theorem Chg.new {p q : Addr} {H H' : Hp} (c : Chg p H H') (n : q ≠ p) (h : H' q = none) : H q = none := by
  cases e : H q with
  | none => rfl
  | some o => rw [c q o n e] at h; cases h
section
variable {K : PySem.W.Frag} {σ : St} {H : Hp} {Q : VK} {cs : List Nat} {te : TE}
theorem comp_zip {r1 r2 : Addr} {us vs : List V} (h1 : SqL K H r1 us) (h2 : SqL K H r2 vs) (hl : vs.length = us.length) (hz : us.length ≤ 1000) (zs : List V) (hzl : zs.length = us.length)
    (hb : ∀ (i : Nat) (x y z : V) H' (R : VK), us[i]? = some x → vs[i]? = some y → zs[i]? = some z → Same H H' → R z H' → te ([some x, some y] ++ capV cs σ) H' R)
    (hd : ∀ acc H', H acc = none → Same H H' → H' acc = some (.lst zs) → Q (.ref acc) H') :
    CompIt (Itz K r1 r2) 2 cs (gTupM 2 (gCons (gName 0) (gCons (gName 1) gNil))) tYes te σ H Q := by
  refine comp_any us.length (fun acc i ws H' => Same H H' ∧ H' acc = some (.lst ws) ∧ ws = zs.take i) (le_size hz) ?_ ?_ ?_ ?_ ?_ ?_
  · rintro acc i ws H' hi ⟨s, _, _⟩
    exact ⟨_, _, s.seq h1, s.seq h2, hi, by omega⟩
  · rintro acc ws H' ⟨s, _, _⟩
    exact ⟨_, _, s.seq h1, s.seq h2, .inl (Nat.le_refl _)⟩
  · intro acc ha
    exact ⟨same_new ha _, upd_same, rfl⟩
  · rintro acc i ws H' ⟨s, ha, rfl⟩
    exact ⟨ha, by rw [List.length_take]; omega⟩
  · rintro acc i ws H' ts x H2 N hn hi ⟨s, ha, rfl⟩ ⟨T, u, v, rfl, hT, rfl, e1, e2⟩ hts hN
    have hu := e1 _ (s.seq h1)
    have hv := e2 _ (s.seq h2)
    obtain ⟨z, hzi⟩ : ∃ z, zs[i]? = some z := ⟨_, List.getElem?_eq_getElem (by omega)⟩
    obtain ⟨t0, t1, rfl⟩ : ∃ t0 t1, ts = [t0, t1] := by
      match ts, hts with
      | [a, b], _ => exact ⟨a, b, rfl⟩
    rw [w_gTupM]
    refine ⟨[u, v], upd_same, rfl, ?_⟩
    rw [w_gCons, w_gName, w_gCons, w_gName, w_gNil, w_yes, if_pos rfl]
    have sT := same_new hT (.tup [u, v])
    refine hb i u v z _ _ hu hv hzi (s.trans sT) ?_
    have tk : zs.take (i + 1) = zs.take i ++ [z] := by rw [List.take_add_one, hzi]; rfl
    refine ⟨sT _ _ ha, hN _ [some u, some v] _ rfl ⟨same_upd hn (s.trans sT), upd_same, tk.symm⟩⟩
  · rintro acc ws H' hn ⟨s, ha, rfl⟩
    refine hd acc H' hn s ?_
    rw [ha, List.take_of_length_le (by omega)]
theorem comp_rows {n : Nat} (hz : n ≤ 1000) (row : Nat → List Int) (ex : List Addr) (hex : ∀ e ∈ ex, H e ≠ none)
    (hb : ∀ (i : Nat) H' (R : VK), i < n → Same H H' → (∀ r H5, H' r = none → Same H' H5 → H5 r = some (.lst ((row i).map V.int)) → R (.ref r) H5) → te (some (.int (0 + (i : Int))) :: capV cs σ) H' R)
    (hd : ∀ acc ys H', H acc = none → Same H H' → H' acc = some (.lst ys) → HRs H' (acc :: ex) ys ((List.range n).map row) → Q (.ref acc) H') :
    CompIt (Itr 0 n) 1 cs (gName 0) tYes te σ H Q := by
  refine comp_any n (fun acc i ws H' => Same H H' ∧ H acc = none ∧ H' acc = some (.lst ws) ∧ HRs H' (acc :: ex) ws ((List.range i).map row)) (le_size hz) ?_ ?_ ?_ ?_ ?_ ?_
  · rintro acc i ws H' hi _
    exact hi
  · rintro acc ws H' _
    exact Nat.le_refl _
  · intro acc ha
    exact ⟨same_new ha _, ha, upd_same, hrs_nil⟩
  · rintro acc i ws H' ⟨s, _, ha, hr⟩
    exact ⟨ha, by rw [hr.len, List.length_map, List.length_range]; exact Nat.le_refl _⟩
  · rintro acc i ws H' ts x H2 N hn hi ⟨s, hn', ha, hr⟩ ⟨rfl, rfl⟩ hts hN
    obtain ⟨t0, rfl⟩ : ∃ t0, ts = [t0] := by
      match ts, hts with
      | [a], _ => exact ⟨a, rfl⟩
    rw [w_gName, w_yes, if_pos rfl]
    refine hb i _ _ hi s fun r H5 hr0 s5 h5 => ?_
    refine ⟨s5 _ _ ha, hN _ [_] _ rfl ⟨same_upd hn (s.trans s5), hn, upd_same, ?_⟩⟩
    have hra : r ≠ acc := (ne_of_none ha hr0).symm
    have ne : ∀ e ∈ acc :: ex, r ≠ e := fun e he => by
      rcases List.mem_cons.mp he with z | z
      · subst z; exact hra
      · cases hh : H e with
        | none => exact absurd hh (hex e z)
        | some o => exact (ne_of_none (s _ _ hh) hr0).symm
    have h2 : HRs (upd H5 acc (.lst (ws ++ [.ref r]))) (acc :: ex) (ws ++ [.ref r]) ((List.range i).map row ++ [row i]) := by
      refine HRs.snoc ((hr.same s5).chg List.mem_cons_self (Chg.upd _)) ?_ ne
      rw [upd_ne hra]; exact h5
    rw [List.range_succ, List.map_append]
    exact h2
  · rintro acc ws H' hn ⟨s, _, ha, hr⟩
    exact hd acc ws H' hn s ha hr
end
def unitRow (n i : Nat) : List Int := (List.range n).map fun k => if k = i then 1 else 0
def unV (i : Nat) : V → Option V := fun x => match x with
  | .int k => some (.int (if k = (i : Int) then 1 else 0))
  | _ => none
theorem unV_map (n i : Nat) : (rngV 0 n).filterMap (unV i) = (unitRow n i).map V.int := by
  unfold rngV unitRow
  rw [List.map_map, List.filterMap_map]
  rw [show (unV i ∘ fun (k : Nat) => V.int (0 + (k : Int))) = fun k => some ((V.int ∘ fun k => if k = i then 1 else 0) k) from ?_, filterMap_some]
  funext k
  show some (V.int (if 0 + (k : Int) = (i : Int) then 1 else 0)) = some (V.int (if k = i then 1 else 0))
  by_cases h : k = i
  · subst h; rw [if_pos (by omega), if_pos rfl]
  · rw [if_neg (by omega), if_neg h]
theorem unitRow_len (n i : Nat) : (unitRow n i).length = n := by unfold unitRow; rw [List.length_map, List.length_range]
theorem unitRow_bound {n i : Nat} {x : Int} (h : x ∈ unitRow n i) : x = 0 ∨ x = 1 := by
  unfold unitRow at h
  obtain ⟨k, _, rfl⟩ := List.mem_map.mp h
  by_cases e : k = i
  · rw [if_pos e]; exact .inr rfl
  · rw [if_neg e]; exact .inl rfl
end L2
set_option Elab.async false
set_option linter.all false
set_option maxRecDepth 100000
set_option maxHeartbeats 1000000
namespace L2
open PySem PySem.Spec
theorem map_at {ns : List Int} {i : Nat} {x : V} (h : (ns.map V.int)[i]? = some x) : ∃ n, ns[i]? = some n ∧ x = V.int n := by
  rw [List.getElem?_map] at h
  cases e : ns[i]? with
  | none => rw [e] at h; cases h
  | some n => rw [e] at h; exact ⟨n, rfl, (Option.some.inj h).symm⟩
structure WI (H : Hp) (p : Addr) (ins : Nat) (tb dl : Addr) (k : Nat) (vs us : List V) (rs : List (List Int)) (ds : List Wd) (H' : Hp) : Prop where
  tbl : H' tb = some (.lst vs)
  hrs : HRs H' [dl, tb, p] vs rs
  rl : rs.length = ins + k
  rb : RB (41 * k) rs
  rw_ : ∀ r ∈ rs, r.length = ins
  dll : H' dl = some (.lst us)
  hds : HTs wTup H' us ds
  dlen : ds.length = k
  dk : ∀ (j : Nat) (d : Wd), ds[j]? = some d → d.a < ins + j ∧ d.b < ins + j ∧ (d.w = "sum" ∨ d.w = "less")
  chg : Chg p H H'
  ntb : H tb = none
  ndl : H dl = none
  tp : tb ≠ p
  dp : dl ≠ p
  td : tb ≠ dl
theorem HRs.sub {H : Hp} {ex ex' : List Addr} {vs : List V} {rs : List (List Int)} (h : HRs H ex vs rs) (s : ∀ e ∈ ex', e ∈ ex) : HRs H ex' vs rs := ⟨h.len, fun k r e => by
  obtain ⟨p, e1, e2, e3⟩ := h.at_ k r e
  exact ⟨p, e1, e2, fun z hz => e3 z (s z hz)⟩⟩
structure WG (H : Hp) (p : Addr) (ins : Nat) (tb dl gl : Addr) (k : Nat) (vs us os : List V) (rs : List (List Int)) (ds : List Wd) (gs : List Go) (H' : Hp) : Prop where
  wi : WI H p ins tb dl k vs us rs ds H'
  hrs : HRs H' [gl, dl, tb, p] vs rs
  gll : H' gl = some (.lst os)
  hgs : HTs gTp H' os gs
  gk : ∀ g ∈ gs, g.th < ins + k
  ngl : H gl = none
  gp : gl ≠ p
  gd : gl ≠ dl
  gt : gl ≠ tb
theorem WG.app {H : Hp} {p : Addr} {ins : Nat} {tb dl gl : Addr} {k : Nat} {vs us os : List V} {rs : List (List Int)} {ds : List Wd} {gs : List Go} {H' : Hp} (h : WG H p ins tb dl gl k vs us os rs ds gs H') {x : Addr} {g : Go}
    (hx : H' x = some (.tup (gTp g))) (hg : g.th < ins + k) : WG H p ins tb dl gl k vs us (os ++ [.ref x]) rs ds (gs ++ [g]) (upd H' gl (.lst (os ++ [.ref x]))) := by
  have C : Chg gl H' (upd H' gl (.lst (os ++ [.ref x]))) := Chg.upd _
  have nx : x ≠ gl := ne_of hx h.gll (by intro z; cases z)
  have r1 := h.hrs.chg (l := gl) (by simp) C
  have w1 : WI H p ins tb dl k vs us rs ds (upd H' gl (.lst (os ++ [.ref x]))) :=
    { h.wi with tbl := C _ _ h.gt.symm h.wi.tbl, hrs := r1.sub (by intro e he; exact List.mem_cons_of_mem _ he), dll := C _ _ h.gd.symm h.wi.dll, hds := h.wi.hds.chgL h.gll C, chg := h.wi.chg.updN h.ngl }
  refine ⟨w1, r1, upd_same, (h.hgs.chgL h.gll C).snoc (by rw [upd_ne nx]; exact hx), fun e he => ?_, h.ngl, h.gp, h.gd, h.gt⟩
  rcases List.mem_append.mp he with z | z
  · exact h.gk e z
  · rw [List.mem_singleton.mp z]; exact hg
end L2
set_option Elab.async false
set_option linter.all false
set_option maxRecDepth 100000
set_option maxHeartbeats 1000000
namespace L2
open PySem PySem.Spec
structure Wb (H : Hp) (w dl gl : Addr) (ins : Nat) (us : List V) (ds : List Wd) (os : List V) (gs : List Go) : Prop where
  tup : H w = some (.tup [.int ins, .ref dl, .ref gl])
  dll : H dl = some (.lst us)
  hds : HTs wTup H us ds
  gll : H gl = some (.lst os)
  hgs : HTs gTp H os gs
theorem Wb.same {H H' : Hp} {w dl gl : Addr} {ins : Nat} {us : List V} {ds : List Wd} {os : List V} {gs : List Go} (h : Wb H w dl gl ins us ds os gs) (s : Same H H') : Wb H' w dl gl ins us ds os gs :=
  ⟨s _ _ h.tup, s _ _ h.dll, h.hds.same s, s _ _ h.gll, h.hgs.same s⟩
theorem Wb.chg {H H' : Hp} {w dl gl l : Addr} {ins : Nat} {us xs : List V} {ds : List Wd} {os : List V} {gs : List Go} (h : Wb H w dl gl ins us ds os gs) (hl : H l = some (.lst xs)) (h1 : dl ≠ l) (h2 : gl ≠ l) (c : Chg l H H') : Wb H' w dl gl ins us ds os gs :=
  ⟨c _ _ (ne_of h.tup hl (by intro z; cases z)) h.tup, c _ _ h1 h.dll, h.hds.chgL hl c, c _ _ h2 h.gll, h.hgs.chgL hl c⟩
def sgW (w : Str) : Int := if w = "less" then -1 else 1
structure Ar where
  st : Nat
  go : Nat
  sh : Int
  sg : Int
def aTup (a : Ar) : List V := [.int a.st, .int a.go, .int a.sh, .int a.sg]
def arrF (ins : Nat) : Nat → List Wd → List Ar
  | _, [] => []
  | k, d :: r => ⟨d.a, ins + k, d.s, 1⟩ :: ⟨d.b, ins + k, d.t, sgW d.w⟩ :: arrF ins (k + 1) r
theorem arrF_app (ins : Nat) : ∀ (xs ys : List Wd) (k : Nat), arrF ins k (xs ++ ys) = arrF ins k xs ++ arrF ins (k + xs.length) ys
  | [], ys, k => rfl
  | d :: r, ys, k => by
    show ⟨d.a, ins + k, d.s, 1⟩ :: ⟨d.b, ins + k, d.t, sgW d.w⟩ :: arrF ins (k + 1) (r ++ ys) = _
    rw [arrF_app ins r ys (k + 1), show k + 1 + r.length = k + (d :: r).length by simp; omega]
    rfl
theorem arrF_len (ins : Nat) : ∀ (xs : List Wd) (k : Nat), (arrF ins k xs).length = 2 * xs.length
  | [], _ => rfl
  | d :: r, k => by
    show (arrF ins (k + 1) r).length + 1 + 1 = _
    rw [arrF_len ins r (k + 1)]; simp; omega
theorem arr_at {ins : Nat} : ∀ {ds : List Wd} {k t : Nat} {a : Ar}, (arrF ins k ds)[t]? = some a → ∃ d, ds[t / 2]? = some d ∧ a.go = ins + k + t / 2 ∧ ((t % 2 = 0 ∧ a = ⟨d.a, ins + k + t / 2, d.s, 1⟩) ∨ (t % 2 = 1 ∧ a = ⟨d.b, ins + k + t / 2, d.t, sgW d.w⟩))
  | [], k, t, a, h => by
    rw [show arrF ins k [] = [] from rfl] at h
    simp at h
  | d :: r, k, t, a, h => by
    match t, h with
    | 0, h => cases h; exact ⟨d, rfl, rfl, .inl ⟨rfl, rfl⟩⟩
    | 1, h => cases h; exact ⟨d, rfl, rfl, .inr ⟨rfl, rfl⟩⟩
    | t + 2, h =>
      have h' : (arrF ins (k + 1) r)[t]? = some a := h
      obtain ⟨e, e1, e2, e3⟩ := arr_at h'
      have q : (t + 2) / 2 = t / 2 + 1 := by omega
      have q2 : ins + (k + 1) + t / 2 = ins + k + (t / 2 + 1) := by omega
      rw [q]
      rw [q2] at e2 e3
      refine ⟨e, e1, e2, ?_⟩
      rcases e3 with ⟨z, e3⟩ | ⟨z, e3⟩
      · exact .inl ⟨by omega, e3⟩
      · exact .inr ⟨by omega, e3⟩
theorem arr_of {ins : Nat} : ∀ {ds : List Wd} {k j : Nat} {d : Wd}, ds[j]? = some d → (arrF ins k ds)[2 * j]? = some ⟨d.a, ins + k + j, d.s, 1⟩ ∧ (arrF ins k ds)[2 * j + 1]? = some ⟨d.b, ins + k + j, d.t, sgW d.w⟩
  | [], k, j, d, h => by simp at h
  | e :: r, k, 0, d, h => by
    cases h
    exact ⟨rfl, rfl⟩
  | e :: r, k, j + 1, d, h => by
    obtain ⟨a, b⟩ := arr_of (ins := ins) (k := k + 1) (j := j) (d := d) (ds := r) h
    rw [show ins + (k + 1) + j = ins + k + (j + 1) by omega] at a b
    exact ⟨a, b⟩
inductive Rch (ins : Nat) (ds : List Wd) (gs : List Go) : Nat → Prop
  | root {g : Go} : g ∈ gs → g.sg ≠ 0 → Rch ins ds gs g.th
  | fst {k : Nat} {d : Wd} : ds[k]? = some d → Rch ins ds gs (ins + k) → Rch ins ds gs d.a
  | snd {k : Nat} {d : Wd} : ds[k]? = some d → Rch ins ds gs (ins + k) → Rch ins ds gs d.b
structure Us (ins : Nat) (ds : List Wd) (gs : List Go) (bs : List Bool) : Prop where
  len : bs.length = ins + ds.length
  iff : ∀ i, i < ins + ds.length → (bs[i]? = some true ↔ Rch ins ds gs i)
structure Ps (ins : Nat) (ds : List Wd) (gs : List Go) (i : Nat) (bs : List Bool) : Prop where
  len : bs.length = ins + ds.length
  snd : ∀ j, bs[j]? = some true → Rch ins ds gs j
  root : ∀ g ∈ gs, g.sg ≠ 0 → bs[g.th]? = some true
  clo : ∀ t a, 2 * ds.length - i ≤ t → (arrF ins 0 ds)[t]? = some a → bs[a.go]? = some true → bs[a.st]? = some true
theorem set_true {bs : List Bool} {j i : Nat} (h : bs[i]? = some true) : (bs.set j true)[i]? = some true := by
  rw [List.getElem?_set]
  split
  · split
    · rfl
    · rename_i e1 e2
      subst e1
      have := (List.getElem?_eq_some_iff.mp h).1
      omega
  · exact h
theorem arr_lt {ins : Nat} {ds : List Wd} {gs : List Go} (ok : WebOk ins ds gs) {t : Nat} {a : Ar} (h : (arrF ins 0 ds)[t]? = some a) : a.st < a.go ∧ a.go = ins + t / 2 ∧ a.go < ins + ds.length := by
  obtain ⟨d, h1, h2, h3⟩ := arr_at h
  have k := ok.dk _ d h1
  have hl := (List.getElem?_eq_some_iff.mp h1).1
  rcases h3 with ⟨_, z⟩ | ⟨_, z⟩ <;> rw [z] <;> refine ⟨?_, by show ins + 0 + t / 2 = _; omega, by show ins + 0 + t / 2 < _; omega⟩
  · show d.a < ins + 0 + t / 2
    omega
  · show d.b < ins + 0 + t / 2
    omega
theorem Ps.step {ins : Nat} {ds : List Wd} {gs : List Go} {i : Nat} {bs : List Bool} (ok : WebOk ins ds gs) (h : Ps ins ds gs i bs) {a : Ar} (hi : i < 2 * ds.length) (ha : (arrF ins 0 ds)[2 * ds.length - 1 - i]? = some a) :
    ∃ b, bs[a.go]? = some b ∧ a.st < bs.length ∧ Ps ins ds gs (i + 1) (if b = true then bs.set a.st true else bs) := by
  obtain ⟨l1, l2, l3⟩ := arr_lt ok ha
  have hl : a.go < bs.length := by rw [h.len]; exact l3
  refine ⟨bs[a.go], List.getElem?_eq_getElem hl, by omega, ?_⟩
  have at_ : ∀ t b, 2 * ds.length - (i + 1) ≤ t → (arrF ins 0 ds)[t]? = some b → t = 2 * ds.length - 1 - i ∧ b = a ∨ 2 * ds.length - i ≤ t ∧ a.go ≤ b.go := fun t b ht hb => by
    by_cases e : t = 2 * ds.length - 1 - i
    · subst e
      rw [ha] at hb
      exact .inl ⟨rfl, (Option.some.inj hb).symm⟩
    · refine .inr ⟨by omega, ?_⟩
      obtain ⟨_, m2, _⟩ := arr_lt ok hb
      rw [l2, m2]
      have : (2 * ds.length - 1 - i) / 2 ≤ t / 2 := Nat.div_le_div_right (by omega)
      omega
  cases hb : bs[a.go] with
  | false =>
    rw [if_neg (by decide)]
    refine ⟨h.len, h.snd, h.root, fun t b ht hb' hg => ?_⟩
    rcases at_ t b ht hb' with ⟨_, z⟩ | ⟨z, _⟩
    · subst z
      rw [List.getElem?_eq_getElem hl, hb] at hg
      cases hg
    · exact h.clo t b z hb' hg
  | true =>
    rw [if_pos rfl]
    have ra : Rch ins ds gs a.go := h.snd _ (by rw [List.getElem?_eq_getElem hl, hb])
    have rs : Rch ins ds gs a.st := by
      obtain ⟨d, h1, h2, h3⟩ := arr_at ha
      rw [h2, Nat.add_zero] at ra
      rcases h3 with ⟨_, z⟩ | ⟨_, z⟩
      · rw [z]; exact .fst h1 ra
      · rw [z]; exact .snd h1 ra
    refine ⟨by rw [List.length_set]; exact h.len, fun j hj => ?_, fun g hg hs => set_true (h.root g hg hs), fun t b ht hb' hg => ?_⟩
    · by_cases e : a.st = j
      · rw [← e]; exact rs
      · rw [List.getElem?_set_ne e] at hj
        exact h.snd j hj
    · rcases at_ t b ht hb' with ⟨_, z⟩ | ⟨z, m⟩
      · subst z
        rw [List.getElem?_set_self (by omega)]
      · rw [List.getElem?_set_ne (by omega)] at hg
        exact set_true (h.clo t b z hb' hg)
theorem Ps.done {ins : Nat} {ds : List Wd} {gs : List Go} {bs : List Bool} (h : Ps ins ds gs (2 * ds.length) bs) : Us ins ds gs bs := by
  refine ⟨h.len, fun i _ => ⟨h.snd i, fun r => ?_⟩⟩
  induction r with
  | root hg hs => exact h.root _ hg hs
  | @fst k d hk _ ih =>
    have l := (List.getElem?_eq_some_iff.mp hk).1
    have a := (arr_of (ins := ins) (k := 0) hk).1
    exact h.clo _ _ (by omega) a (ih (by omega))
  | @snd k d hk _ ih =>
    have l := (List.getElem?_eq_some_iff.mp hk).1
    have a := (arr_of (ins := ins) (k := 0) hk).2
    exact h.clo _ _ (by omega) a (ih (by omega))
structure Rt (ins : Nat) (ds : List Wd) (gs : List Go) (i : Nat) (bs : List Bool) : Prop where
  len : bs.length = ins + ds.length
  snd : ∀ j, bs[j]? = some true → Rch ins ds gs j
  root : ∀ k g, k < i → gs[k]? = some g → g.sg ≠ 0 → bs[g.th]? = some true
theorem rt_zero {ins : Nat} {ds : List Wd} {gs : List Go} : Rt ins ds gs 0 (List.replicate (ins + ds.length) false) :=
  ⟨List.length_replicate, fun j h => by rw [List.getElem?_replicate] at h; split at h <;> simp at h, fun k g h => by omega⟩
theorem Rt.step {ins : Nat} {ds : List Wd} {gs : List Go} {i : Nat} {bs : List Bool} (h : Rt ins ds gs i bs) {g : Go} (hg : gs[i]? = some g) (hlt : g.th < ins + ds.length) : Rt ins ds gs (i + 1) (if g.sg = 0 then bs else bs.set g.th true) := by
  by_cases z : g.sg = 0
  · rw [if_pos z]
    refine ⟨h.len, h.snd, fun k e hk he hs => ?_⟩
    by_cases q : k = i
    · subst q
      rw [hg] at he
      cases he
      exact absurd z hs
    · exact h.root k e (by omega) he hs
  · rw [if_neg z]
    refine ⟨by rw [List.length_set]; exact h.len, fun j hj => ?_, fun k e hk he hs => ?_⟩
    · by_cases e : g.th = j
      · rw [← e]; exact .root (List.mem_of_getElem? hg) z
      · rw [List.getElem?_set_ne e] at hj
        exact h.snd j hj
    · by_cases q : k = i
      · subst q
        rw [hg] at he
        cases he
        rw [List.getElem?_set_self (by rw [h.len]; exact hlt)]
      · exact set_true (h.root k e (by omega) he hs)
theorem Rt.done {ins : Nat} {ds : List Wd} {gs : List Go} {bs : List Bool} (h : Rt ins ds gs gs.length bs) : Ps ins ds gs 0 bs := by
  refine ⟨h.len, h.snd, fun g hg hs => ?_, fun t a ht ha => ?_⟩
  · obtain ⟨k, hk⟩ := List.getElem?_of_mem hg
    exact h.root k g (List.getElem?_eq_some_iff.mp hk).1 hk hs
  · have := (List.getElem?_eq_some_iff.mp ha).1
    rw [arrF_len] at this
    omega
def spSnd : Sp := fun vs H Q _ => ∃ (x : Addr) (d : Wd), vs = [.ref x] ∧ H x = some (.tup (wTup d)) ∧ Q (.int (sgW d.w)) H
theorem atI_map {α : Type} {f : α → V} {xs : List α} {j : Nat} {x : α} (h : xs[j]? = some x) : atI (xs.map f) (j : Int) = some (f x) := atI_nat (by rw [List.getElem?_map, h]; rfl)
theorem ixN_nat {n j : Nat} (h : j < n) : ixN n (j : Int) = some j := by unfold ixN; rw [if_pos (by omega), if_pos (by omega)]; rfl
end L2
set_option Elab.async false
set_option linter.all false
set_option maxRecDepth 100000
set_option maxHeartbeats 1000000
namespace L2
open PySem PySem.Spec
section
variable {H : Hp} {Q : VK}
theorem w_pop {l : Addr} : rPop (.ref l) [] H Q = ∃ xs y, H l = some (.lst xs) ∧ xs[xs.length - 1]? = some y ∧ Q y (upd H l (.lst xs.dropLast)) :=
  propext ⟨fun ⟨l', xs, y, e, _, h, g, q⟩ => by cases e; exact ⟨xs, y, h, g, q⟩, fun ⟨xs, y, h, g, q⟩ => ⟨l, xs, y, rfl, rfl, h, g, q⟩⟩
theorem w_extend {l b : Addr} : rExtend (.ref l) [.ref b] H Q = ∃ xs zs, H l = some (.lst xs) ∧ H b = some (.lst zs) ∧ xs.length + zs.length ≤ sizeLine ∧ Q .non (upd H l (.lst (xs ++ zs))) :=
  propext ⟨fun ⟨l', b', xs, zs, e, e2, h⟩ => by cases e; cases e2; exact ⟨xs, zs, h⟩, fun ⟨xs, zs, h⟩ => ⟨l, b, xs, zs, rfl, rfl, h⟩⟩
theorem w_reverse {l : Addr} : rReverse (.ref l) [] H Q = ∃ xs, H l = some (.lst xs) ∧ Q .non (upd H l (.lst xs.reverse)) :=
  propext ⟨fun ⟨l', xs, e, _, h⟩ => by cases e; exact ⟨xs, h⟩, fun ⟨xs, h⟩ => ⟨l, xs, rfl, rfl, h⟩⟩
theorem w_clear {l : Addr} : rClear (.ref l) [] H Q = ∃ xs, H l = some (.lst xs) ∧ Q .non (upd H l (.lst [])) :=
  propext ⟨fun ⟨l', xs, e, _, h⟩ => by cases e; exact ⟨xs, h⟩, fun ⟨xs, h⟩ => ⟨l, xs, rfl, rfl, h⟩⟩
theorem w_cat {l b : Addr} : rCat (.ref l) (.ref b) H Q = ∃ xs zs, H l = some (.lst xs) ∧ H b = some (.lst zs) ∧ xs.length + zs.length ≤ sizeLine ∧ ∀ p, H p = none → Q (.ref p) (upd H p (.lst (xs ++ zs))) :=
  propext ⟨fun ⟨l', b', xs, zs, e, e2, h⟩ => by cases e; cases e2; exact ⟨xs, zs, h⟩, fun ⟨xs, zs, h⟩ => ⟨l, b, xs, zs, rfl, rfl, h⟩⟩
end
section
variable {X : Cx}
end
section
variable {K : PySem.W.Frag} {σ : St} {H : Hp} {Q : VK} {cs : List Nat} {tt : TT} {te : TE}
end
def nints (l : List Nat) : List Int := l.map fun (x : Nat) => (x : Int)
theorem nints_app (a b : List Nat) : nints (a ++ b) = nints a ++ nints b := List.map_append ..
def fr (ms : List Nat) : Nat → Nat
  | 0 => 0
  | n + 1 => (if n ∈ ms then 0 else 1) + fr ms n
def wait0 (gs : List Go) : List Nat := (gs.filter fun g => decide (g.sg ≠ 0)).map (·.th)
theorem wait0_len (gs : List Go) : (wait0 gs).length ≤ gs.length := by unfold wait0; rw [List.length_map]; exact List.length_filter_le _ _
theorem nints_len (l : List Nat) : (nints l).length = l.length := by unfold nints; rw [List.length_map]
theorem hts_isL {α : Type} {f : α → List V} {K : PySem.W.Frag} {H : Hp} (hf : ∀ a, (f a).all flatV = true) : ∀ {xs : List α} {vs : List V}, HTs f H vs xs → IsL K H vs (xs.map fun a => .t ((f a).map Dt.f))
  | [], vs, h => by
    have : vs = [] := List.eq_nil_of_length_eq_zero h.len
    subst this
    rw [List.map_nil, IsL]
  | a :: r, vs, h => by
    obtain ⟨p, h1, h2⟩ := h.at_ 0 a rfl
    cases vs with
    | nil => cases h1
    | cons v vs =>
      cases h1
      rw [List.map_cons, IsL]
      refine ⟨_, _, rfl, is_tup (SqT.of h2) (hf a), hts_isL hf ⟨by have := h.len; simpa using this, fun k x hx => ?_⟩⟩
      exact h.at_ (k + 1) x hx
def webDt (ins : Nat) (ds : List Wd) (gs : List Go) : Dt := .t [.f (.int ins), .l (ds.map fun d => .t ((wTup d).map Dt.f)), .l (gs.map fun g => .t ((gTp g).map Dt.f))]
theorem Wb.is {K : PySem.W.Frag} {H : Hp} {w dl gl : Addr} {ins : Nat} {us : List V} {ds : List Wd} {os : List V} {gs : List Go} (h : Wb H w dl gl ins us ds os gs) : Is K H (.ref w) (webDt ins ds gs) := by
  unfold webDt
  rw [Is]
  refine ⟨w, _, rfl, SqT.of h.tup, ?_⟩
  rw [IsL]
  refine ⟨_, _, rfl, by rw [Is]; exact ⟨rfl, rfl⟩, ?_⟩
  rw [IsL]
  refine ⟨_, _, rfl, ?_, ?_⟩
  · rw [Is]
    exact ⟨dl, us, rfl, SqL.of h.dll, hts_isL (fun _ => rfl) h.hds⟩
  · rw [IsL]
    refine ⟨_, _, rfl, ?_, by rw [IsL]⟩
    rw [Is]
    exact ⟨gl, os, rfl, SqL.of h.gll, hts_isL (fun _ => rfl) h.hgs⟩
theorem depL_tups {α : Type} {f : α → List V} : ∀ (xs : List α), depL (xs.map fun a => .t ((f a).map Dt.f)) ≤ 1
  | [] => by rw [List.map_nil, depL]; decide
  | a :: r => by
    rw [List.map_cons, depL, dep_t]
    have := depL_tups (f := f) r
    omega
theorem dep_web (ins : Nat) (ds : List Wd) (gs : List Go) : dep (webDt ins ds gs) ≤ 50 := by
  unfold webDt
  have h1 := depL_tups (f := wTup) ds
  have h2 := depL_tups (f := gTp) gs
  rw [dep, depL, depL, depL, depL, dep, dep, dep]
  omega
theorem ne_web {K : PySem.W.Frag} {H : Hp} {w dl gl w' dl' gl' : Addr} {ins : Nat} {us us' : List V} {ds : List Wd} {os os' : List V} {gs : List Go} {Q : VK} (h : Wb H w dl gl ins us ds os gs) (h' : Wb H w' dl' gl' ins us' ds os' gs) (q : Q (.bl false) H) : rNeD K (.ref w) (.ref w') H Q :=
  ⟨w, _, _, rfl, h.is, h'.is, dep_web _ _ _, by rw [deq_refl _ (h.is (K := K))]; exact q⟩
end L2
set_option Elab.async false
set_option linter.all false
set_option maxRecDepth 100000
set_option maxHeartbeats 1000000
namespace L2
open PySem PySem.Spec PyProof.Rows
section
variable {prog : Program} {w : World} {A : Around} {E : Value → Shared → Prop} {s : Shared}
end
section
variable {prog : Program} {w : World} {A : Around} {s : Shared} {R : Result → Shared → Prop} {xs ys : Array Value} {z TI TO i1 i2 l1 l2 S lo : Addr}
end
section
variable {prog : Program} {w : World} {A : Around} {E : Value → Shared → Prop} {s : Shared} {xs ys : Array Value} {z TI TO i1 i2 l1 l2 : Addr}
end
def tLZ (K : PySem.W.Frag) (ta : TA) : TE := fun σ H Q => ta σ H fun vs H1 => ∃ a b us ws, vs = [.ref a, .ref b] ∧ SqL K H1 a us ∧ SqL K H1 b ws ∧ ws.length = us.length ∧ us.length ≤ 1000 ∧
  ∀ l zs H', H1 l = none → Same H1 H' → H' l = some (.lst zs) → zs.length = us.length → (∀ (k : Nat) (x y : V), us[k]? = some x → ws[k]? = some y → ∃ t : Addr, zs[k]? = some (.ref t) ∧ H' t = some (.tup [x, y])) → Q (.ref l) H'
theorem w_LZ {K : PySem.W.Frag} {ta : TA} {σ : St} {H : Hp} {Q : VK} : tLZ K ta σ H Q = (ta σ H fun vs H1 => ∃ a b us ws, vs = [.ref a, .ref b] ∧ SqL K H1 a us ∧ SqL K H1 b ws ∧ ws.length = us.length ∧ us.length ≤ 1000 ∧
  ∀ l zs H', H1 l = none → Same H1 H' → H' l = some (.lst zs) → zs.length = us.length → (∀ (k : Nat) (x y : V), us[k]? = some x → ws[k]? = some y → ∃ t : Addr, zs[k]? = some (.ref t) ∧ H' t = some (.tup [x, y])) → Q (.ref l) H') := rfl
end L2
set_option Elab.async false
set_option linter.all false
set_option maxRecDepth 100000
set_option maxHeartbeats 1000000
namespace L2
open PySem PySem.Spec
def rowD (rs : List (List Int)) (d : Wd) : List Int := List.zipWith (fun x y => mvI d.s x + sgW d.w * mvI d.t y) (rs.getD d.a []) (rs.getD d.b [])
def rowsW (ins : Nat) (ds : List Wd) : List (List Int) := ds.foldl (fun rs d => rs ++ [rowD rs d]) ((List.range ins).map (unitRow ins))
theorem rowsW_snoc (ins : Nat) (ds : List Wd) (d : Wd) : rowsW ins (ds ++ [d]) = rowsW ins ds ++ [rowD (rowsW ins ds) d] := by unfold rowsW; rw [List.foldl_append]; rfl
theorem rowsW_len (ins : Nat) (ds : List Wd) : (rowsW ins ds).length = ins + ds.length := by
  refine snoc_ind (p := fun ds => (rowsW ins ds).length = ins + ds.length) ?_ (fun xs x ih => ?_) ds
  · unfold rowsW; simp
  · rw [rowsW_snoc, List.length_append, ih]; simp; omega
theorem rowsW_pre (ins : Nat) (ds new : List Wd) {k : Nat} {r : List Int} (h : (rowsW ins ds)[k]? = some r) : (rowsW ins (ds ++ new))[k]? = some r := by
  refine snoc_ind (p := fun new => (rowsW ins (ds ++ new))[k]? = some r) (by rw [List.append_nil]; exact h) (fun xs x ih => ?_) new
  rw [← List.append_assoc, rowsW_snoc, List.getElem?_append_left (List.getElem?_eq_some_iff.mp ih).1]
  exact ih
theorem getD_of {α : Type} {xs : List α} {k : Nat} {x d : α} (h : xs[k]? = some x) : xs.getD k d = x := by rw [List.getD_eq_getElem?_getD, h]; rfl
def Dv (s : Int) (r : List Int) : Prop := s < 0 → ∀ x ∈ r, (2 : Int) ^ (-s).toNat ∣ x
def Sh (s : Int) (r : List Int) : Prop := -40 ≤ s ∧ s ≤ 40 ∧ Dv s r
def ShOk (ins : Nat) (ds : List Wd) : Prop := ∀ (k : Nat) (d : Wd), ds[k]? = some d → d.a < ins + k ∧ d.b < ins + k ∧ Sh d.s ((rowsW ins ds).getD d.a []) ∧ Sh d.t ((rowsW ins ds).getD d.b [])
theorem rows_stay (ins : Nat) (ds : List Wd) (d : Wd) {j : Nat} (h : j < ins + ds.length) : (rowsW ins (ds ++ [d])).getD j [] = (rowsW ins ds).getD j [] := by
  have hj : j < (rowsW ins ds).length := by rw [rowsW_len]; exact h
  have e := List.getElem?_eq_getElem hj
  rw [getD_of e, getD_of (rowsW_pre ins ds [d] e)]
theorem ShOk.snoc {ins : Nat} {ds : List Wd} {d : Wd} (h : ShOk ins ds) (h1 : d.a < ins + ds.length) (h2 : d.b < ins + ds.length) (h3 : Sh d.s ((rowsW ins ds).getD d.a [])) (h4 : Sh d.t ((rowsW ins ds).getD d.b [])) : ShOk ins (ds ++ [d]) := fun k e he => by
  rcases get_snoc he with ⟨hk, z⟩ | ⟨hk, rfl⟩
  · obtain ⟨a, b, c, f⟩ := h k e z
    rw [rows_stay ins ds d (by omega), rows_stay ins ds d (by omega)]
    exact ⟨a, b, c, f⟩
  · rw [rows_stay ins ds _ h1, rows_stay ins ds _ h2, hk]
    exact ⟨h1, h2, h3, h4⟩
def GoOk (ins : Nat) (ds : List Wd) (gs : List Go) : Prop := ∀ g ∈ gs, g = ⟨0, 0, 0⟩ ∨ ((g.sg = 1 ∨ g.sg = -1) ∧ Sh g.sh ((rowsW ins ds).getD g.th []))
structure FWeb (ins : Nat) (ds : List Wd) (gs : List Go) : Prop where
  ok : WebOk ins ds gs
  sh : ShOk ins ds
  go : GoOk ins ds gs
  rb : RB (41 * ds.length) (rowsW ins ds)
  wd : ∀ r ∈ rowsW ins ds, r.length = ins
theorem WI.stepL {H : Hp} {p : Addr} {ins : Nat} {tb dl : Addr} {k : Nat} {vs us xs : List V} {rs : List (List Int)} {ds : List Wd} {H' H'' : Hp} (h : WI H p ins tb dl k vs us rs ds H') (hp : H' p = some (.lst xs)) (C : Chg p H' H'') : WI H p ins tb dl k vs us rs ds H'' :=
  { h with tbl := C _ _ h.tp h.tbl, hrs := h.hrs.chg (by simp) C, dll := C _ _ h.dp h.dll, hds := h.hds.chgL hp C, chg := h.chg.trans C }
structure FI (H : Hp) (p : Addr) (ins : Nat) (tb dl : Addr) (k : Nat) (vs us : List V) (ds : List Wd) (H' : Hp) : Prop where
  wi : WI H p ins tb dl k vs us (rowsW ins ds) ds H'
  sh : ShOk ins ds
theorem row_of {H' : Hp} {ex : List Addr} {vs : List V} {rs : List (List Int)} (h : HRs H' ex vs rs) {j : Nat} (hj : j < rs.length) : ∃ (l : Addr) (r : List Int), rs[j]? = some r ∧ atI vs (j : Int) = some (.ref l) ∧ H' l = some (.lst (r.map V.int)) ∧ r ∈ rs ∧ ∀ e ∈ ex, l ≠ e := by
  obtain ⟨l, e1, e2, e3⟩ := h.at_ j _ (List.getElem?_eq_getElem hj)
  exact ⟨l, rs[j], List.getElem?_eq_getElem hj, atI_nat e1, e2, List.getElem_mem hj, e3⟩
theorem FI.app {H : Hp} {p : Addr} {ins : Nat} {tb dl : Addr} {k : Nat} {vs us : List V} {ds : List Wd} {H' H1 H3 : Hp} (h : FI H p ins tb dl k vs us ds H') (hi : ins ≤ 12) {d : Wd} {x : Addr} (s1 : Same H' H1) (hx : H1 x = some (.tup (wTup d)))
    (s3 : Same (upd H1 dl (.lst (us ++ [.ref x]))) H3) {l : Addr} (hl : H3 l = some (.lst ((rowD (rowsW ins ds) d).map V.int))) (nl : (upd H1 dl (.lst (us ++ [.ref x]))) l = none) (lp : l ≠ p) (h1 : d.a < ins + k) (h2 : d.b < ins + k) (hw : d.w = "sum" ∨ d.w = "less")
    (h3 : Sh d.s ((rowsW ins ds).getD d.a [])) (h4 : Sh d.t ((rowsW ins ds).getD d.b [])) (hr : (rowD (rowsW ins ds) d).length = ins) (hb : ∀ x ∈ rowD (rowsW ins ds) d, x.natAbs ≤ 2 ^ (41 * (k + 1))) :
    FI H p ins tb dl (k + 1) (vs ++ [.ref l]) (us ++ [.ref x]) (ds ++ [d]) (upd H3 tb (.lst (vs ++ [.ref l]))) := by
  have wi := h.wi
  have d1 := s1 _ _ wi.dll
  have t1 := s1 _ _ wi.tbl
  have t2 : (upd H1 dl (.lst (us ++ [.ref x]))) tb = some (.lst vs) := by rw [upd_ne wi.td]; exact t1
  have t3 := s3 _ _ t2
  have d3 := s3 dl _ upd_same
  have ltb : l ≠ tb := (ne_of_none t2 nl).symm
  have ldl : l ≠ dl := by
    intro z
    rw [z, upd_same] at nl
    cases nl
  have r3 : HRs H3 [dl, tb, p] vs (rowsW ins ds) := ((wi.hrs.same s1).chg (l := dl) (by simp) (Chg.upd _)).same s3
  have nx : x ≠ dl := ne_of hx d1 (by intro z; cases z)
  have hd2 : HTs wTup (upd H1 dl (.lst (us ++ [.ref x]))) (us ++ [.ref x]) (ds ++ [d]) := ((wi.hds.same s1).chgL d1 (Chg.upd _)).snoc (by rw [upd_ne nx]; exact hx)
  have hd3 := (hd2.same s3).chgL t3 (Chg.upd (.lst (vs ++ [.ref l])))
  have dlen : (ds ++ [d]).length = k + 1 := by simp [wi.dlen]
  refine ⟨⟨upd_same, ?_, ?_, ?_, ?_, ?_, hd3, dlen, fun j e he => ?_, ?_, wi.ntb, wi.ndl, wi.tp, wi.dp, wi.td⟩, h.sh.snoc (by rw [wi.dlen]; exact h1) (by rw [wi.dlen]; exact h2) h3 h4⟩
  · rw [rowsW_snoc]
    refine (r3.chg (l := tb) (by simp) (Chg.upd _)).snoc (by rw [upd_ne ltb]; exact hl) fun e he => ?_
    simp only [List.mem_cons, List.not_mem_nil, or_false] at he
    rcases he with z | z | z <;> subst z <;> assumption
  · rw [rowsW_len, dlen]
  · rw [rowsW_snoc]
    exact wi.rb.snoc (by omega) (by omega) hb
  · intro q hq
    rw [rowsW_snoc] at hq
    rcases List.mem_append.mp hq with z | z
    · exact wi.rw_ q z
    · rw [List.mem_singleton.mp z]; exact hr
  · rw [upd_ne wi.td.symm]; exact d3
  · rcases get_snoc he with ⟨hj, z⟩ | ⟨hj, rfl⟩
    · exact wi.dk j e z
    · rw [hj, wi.dlen]; exact ⟨h1, h2, hw⟩
  · exact Chg.updN (((wi.chg.trans s1.chg).updN wi.ndl).trans s3.chg) wi.ntb
theorem rowD_bound {rs : List (List Int)} {d : Wd} {k ins : Nat} (h : RB (41 * k) rs) (hw : ∀ r ∈ rs, r.length = ins) (ha : d.a < rs.length) (hb : d.b < rs.length) (s0 : -40 ≤ d.s) (s1 : d.s ≤ 40) (t0 : -40 ≤ d.t) (t1 : d.t ≤ 40) :
    (rowD rs d).length = ins ∧ ∀ x ∈ rowD rs d, x.natAbs ≤ 2 ^ (41 * (k + 1)) := by
  have ea := getD_of (d := []) (List.getElem?_eq_getElem ha)
  have eb := getD_of (d := []) (List.getElem?_eq_getElem hb)
  have ma := List.getElem_mem ha
  have mb := List.getElem_mem hb
  unfold rowD
  rw [ea, eb]
  refine ⟨by rw [List.length_zipWith, hw _ ma, hw _ mb]; omega, fun x hx => ?_⟩
  obtain ⟨i, hi⟩ := List.getElem?_of_mem hx
  rw [List.getElem?_zipWith] at hi
  cases h1 : rs[d.a][i]? with
  | none => rw [h1] at hi; cases hi
  | some u =>
    cases h2 : rs[d.b][i]? with
    | none => rw [h1, h2] at hi; cases hi
    | some v =>
      rw [h1, h2] at hi
      cases hi
      have b1 := mvI_bound s0 s1 ((h _ ma).2 u (List.mem_of_getElem? h1))
      have b2 := mvI_bound t0 t1 ((h _ mb).2 v (List.mem_of_getElem? h2))
      have pw : 2 ^ (41 * (k + 1)) = 2 ^ (41 * k + 40) + 2 ^ (41 * k + 40) := by
        rw [show 41 * (k + 1) = 41 * k + 40 + 1 by omega, Nat.pow_succ]; omega
      rw [pw]
      have hg : sgW d.w = 1 ∨ sgW d.w = -1 := by
        unfold sgW
        split
        · exact .inr rfl
        · exact .inl rfl
      have := abs_le_of (g := 1) (h := sgW d.w) (.inl rfl) hg b1 b2
      rw [Int.one_mul] at this
      exact this
section
variable {K : PySem.W.Frag} {σ : St} {H : Hp} {Q : VK} {cs : List Nat} {te : TE}
end
theorem mvI_up {s n : Int} (h : 0 ≤ s) : mvI s n = n * 2 ^ s.toNat := by
  unfold mvI
  rw [if_neg (by omega)]
  by_cases z : 0 > 0 - s
  · rw [if_pos z]; simp
  · rw [if_neg z, show s = 0 by omega]; simp
theorem mvI_down {s n : Int} (h : s < 0) : mvI s n = n / 2 ^ (-s).toNat := by
  unfold mvI
  rw [if_pos (by omega), if_neg (by omega), show (0 - s) = -s by omega]
  simp
structure FG (H : Hp) (p : Addr) (ins : Nat) (tb dl gl : Addr) (k : Nat) (vs us os : List V) (ds : List Wd) (gs : List Go) (H' : Hp) : Prop where
  wg : WG H p ins tb dl gl k vs us os (rowsW ins ds) ds gs H'
  sh : ShOk ins ds
  go : GoOk ins ds gs
theorem FG.app {H : Hp} {p : Addr} {ins : Nat} {tb dl gl : Addr} {k : Nat} {vs us os : List V} {ds : List Wd} {gs : List Go} {H' : Hp} (h : FG H p ins tb dl gl k vs us os ds gs H') {x : Addr} {g : Go}
    (hx : H' x = some (.tup (gTp g))) (hg : g.th < ins + k) (hs : g = ⟨0, 0, 0⟩ ∨ ((g.sg = 1 ∨ g.sg = -1) ∧ Sh g.sh ((rowsW ins ds).getD g.th []))) : FG H p ins tb dl gl k vs us (os ++ [.ref x]) ds (gs ++ [g]) (upd H' gl (.lst (os ++ [.ref x]))) := by
  refine ⟨h.wg.app hx hg, h.sh, fun e he => ?_⟩
  rcases List.mem_append.mp he with z | z
  · exact h.go e z
  · rw [List.mem_singleton.mp z]; exact hs
end L2
set_option Elab.async false
set_option linter.all false
set_option maxRecDepth 100000
set_option maxHeartbeats 1000000
namespace L2
open PySem PySem.Spec
def iT (r : List Int) : List V := r.map V.int
theorem shV_mv {n s : Int} {r : List Int} (hn : n ∈ r) (h : Dv s r) : shV n s = .int (mvI s n) := by
  unfold shV
  by_cases z : 0 ≤ s
  · rw [if_pos z, mvI_up z]
  · rw [if_neg z, mvI_down (by omega), if_pos (ediv_iff.mpr (h (by omega) n hn))]
def shRV (s : Int) : V → Option V := fun x => match x with
  | .int n => some (shV n s)
  | _ => none
theorem shRV_map {s : Int} {r : List Int} (h : Dv s r) : (r.map V.int).filterMap (shRV s) = (r.map (mvI s)).map V.int := by
  rw [List.filterMap_map, List.map_map]
  have e : (r.filterMap (shRV s ∘ V.int)) = r.map fun n => shV n s := filterMap_some (fun n => shV n s) r
  rw [e]
  exact List.map_congr_left fun x hx => shV_mv hx h
section
variable {K : PySem.W.Frag} {σ : St} {H : Hp} {Q : VK} {cs : List Nat} {te : TE}
theorem comp_tups {J : It} {α : Type} {f : α → List V} {xs : List V} (zs : List α) (hzl : zs.length = xs.length) (hz : xs.length ≤ 1000)
    (hJ : ∀ H', Same H H' → (∀ i, i < xs.length → J.go i H') ∧ (∀ i x H2, J.yld i H' x H2 → H2 = H' ∧ (i < xs.length → xs[i]? = some x)) ∧ J.stop xs.length H')
    (hb : ∀ (i : Nat) x z H' (R : VK), xs[i]? = some x → zs[i]? = some z → Same H H' → (∀ r H5, H' r = none → Same H' H5 → H5 r = some (.tup (f z)) → R (.ref r) H5) → te (some x :: capV cs σ) H' R)
    (hd : ∀ acc ys H', H acc = none → Same H H' → H' acc = some (.lst ys) → HTs f H' ys zs → Q (.ref acc) H') :
    CompIt J 1 cs (gName 0) tYes te σ H Q := by
  refine comp_any xs.length (fun acc i ws H' => Same H H' ∧ H' acc = some (.lst ws) ∧ HTs f H' ws (zs.take i)) (le_size hz) ?_ ?_ ?_ ?_ ?_ ?_
  · rintro acc i ws H' hi ⟨s, _, _⟩
    exact (hJ _ s).1 i hi
  · rintro acc ws H' ⟨s, _, _⟩
    exact (hJ _ s).2.2
  · intro acc ha
    exact ⟨same_new ha _, upd_same, hts_nil⟩
  · rintro acc i ws H' ⟨s, ha, ht⟩
    exact ⟨ha, by rw [ht.len, List.length_take]; omega⟩
  · rintro acc i ws H' ts v H2 N hn hi ⟨s, ha, ht⟩ y hts hN
    obtain ⟨e, hx⟩ := (hJ _ s).2.1 i v H2 y
    have hx := hx hi
    subst e
    obtain ⟨t0, rfl⟩ : ∃ t0, ts = [t0] := by
      match ts, hts with
      | [a], _ => exact ⟨a, rfl⟩
    have hz' : zs[i]? = some (zs[i]'(by omega)) := List.getElem?_eq_getElem _
    generalize (zs[i]'(by omega)) = z at hz'
    rw [w_gName, w_yes, if_pos rfl]
    refine hb i v z _ _ hx hz' s fun r H5 hr s5 h5 => ?_
    have ha5 := s5 _ _ ha
    refine ⟨ha5, hN _ [_] _ rfl ⟨same_upd hn (s.trans s5), upd_same, ?_⟩⟩
    have tk : zs.take (i + 1) = zs.take i ++ [z] := by rw [List.take_add_one, hz']; rfl
    rw [tk]
    exact ((ht.same s5).chgL ha5 (Chg.upd _)).snoc (by rw [upd_ne (ne_of h5 ha5 (by intro z; cases z))]; exact h5)
  · rintro acc ws H' hn ⟨s, ha, ht⟩
    rw [List.take_of_length_le (by omega)] at ht
    exact hd acc ws H' hn s ha ht
theorem it_R {n : Nat} {H' : Hp} : (∀ i, i < (rngV 0 n).length → (Itr 0 n).go i H') ∧ (∀ i x H2, (Itr 0 n).yld i H' x H2 → H2 = H' ∧ (i < (rngV 0 n).length → (rngV 0 n)[i]? = some x)) ∧ (Itr 0 n).stop (rngV 0 n).length H' := by
  rw [rngV_len]
  exact ⟨fun i hi => hi, fun i x H2 y => ⟨y.1, fun hi => by rw [rngV_get hi, y.2]⟩, Nat.le_refl _⟩
end
def spInRow : Sp := fun vs H Q _ => ∃ (n i : Nat), vs = [.int n, .int i] ∧ n ≤ 100 ∧ ∀ r H', H r = none → Same H H' → H' r = some (.tup (iT (unitRow n i))) → Q (.ref r) H'
def spInRows : Sp := fun vs H Q _ => ∃ (n : Nat), vs = [.int n] ∧ n ≤ 100 ∧ ∀ r ys H', H r = none → Same H H' → H' r = some (.lst ys) → HTs iT H' ys ((List.range n).map (unitRow n)) → Q (.ref r) H'
theorem tup_of {H' : Hp} {ys : List V} {rs : List (List Int)} (h : HTs iT H' ys rs) {j : Nat} (hj : j < rs.length) : ∃ (l : Addr), atI ys (j : Int) = some (.ref l) ∧ H' l = some (.tup (iT (rs.getD j []))) ∧ rs.getD j [] ∈ rs := by
  obtain ⟨l, e1, e2⟩ := h.at_ j _ (List.getElem?_eq_getElem hj)
  rw [getD_of (List.getElem?_eq_getElem hj)]
  exact ⟨l, atI_nat e1, e2, List.getElem_mem hj⟩
theorem RB.lt {b : Nat} {rs : List (List Int)} {r : List Int} (h : RB b rs) (hr : r ∈ rs) (hb : b ≤ 8000) : ∀ x ∈ r, x.natAbs < 2 ^ 9000 := fun x hx => Nat.lt_of_le_of_lt ((h r hr).2 x hx) (Nat.pow_lt_pow_right (by decide) (by omega))
theorem rowsW_take {ins : Nat} {ds : List Wd} {i : Nat} {d : Wd} (hd : ds[i]? = some d) : rowsW ins (ds.take (i + 1)) = rowsW ins (ds.take i) ++ [rowD (rowsW ins (ds.take i)) d] := by
  rw [List.take_add_one, hd]
  exact rowsW_snoc _ _ _
theorem rowsW_takeD {ins : Nat} {ds : List Wd} {i j : Nat} (hi : i ≤ ds.length) (hj : j < ins + i) : (rowsW ins (ds.take i)).getD j [] = (rowsW ins ds).getD j [] := by
  have hl : j < (rowsW ins (ds.take i)).length := by rw [rowsW_len, List.length_take]; omega
  have e := List.getElem?_eq_getElem hl
  have e2 := rowsW_pre ins (ds.take i) (ds.drop i) e
  rw [List.take_append_drop] at e2
  rw [getD_of e, getD_of e2]
theorem rowsW_sub {ins : Nat} {ds : List Wd} {i : Nat} : ∀ r ∈ rowsW ins (ds.take i), r ∈ rowsW ins ds := fun r hr => by
  obtain ⟨k, hk⟩ := List.getElem?_of_mem hr
  have := rowsW_pre ins (ds.take i) (ds.drop i) hk
  rw [List.take_append_drop] at this
  exact List.mem_of_getElem? this
end L2
set_option Elab.async false
set_option linter.all false
set_option maxRecDepth 100000
set_option maxHeartbeats 1000000
namespace L2
open PySem PySem.Spec
theorem cut_take {xs : List V} {n : Nat} : cutV xs none (some (n : Int)) = xs.take n := by
  unfold cutV
  rw [HT.sIx_none, List.drop_zero, Nat.sub_zero, HT.sIx_nat]
  by_cases hk : n ≤ xs.length
  · rw [Nat.min_eq_left hk]
  · rw [Nat.min_eq_right (by omega), List.take_length, List.take_of_length_le (by omega)]
end L2
set_option Elab.async false
set_option linter.all false
set_option maxRecDepth 100000
set_option maxHeartbeats 1000000
namespace L2
open PySem PySem.Spec
def tupsDt {α : Type} (f : α → List V) (xs : List α) : Dt := .l (xs.map fun a => .t ((f a).map Dt.f))
section
variable {α : Type} {f : α → List V} {K : PySem.W.Frag} {H : Hp} {l l' : Addr} {ys ys' : List V} {xs : List α} {Q : VK}
theorem tups_is (hf : ∀ a, (f a).all flatV = true) (h : H l = some (.lst ys)) (ht : HTs f H ys xs) : Is K H (.ref l) (tupsDt f xs) := by
  unfold tupsDt
  rw [Is]
  exact ⟨l, ys, rfl, SqL.of h, hts_isL hf ht⟩
theorem dep_tups (xs : List α) : dep (tupsDt f xs) ≤ 50 := by
  unfold tupsDt
  have := depL_tups (f := f) xs
  rw [dep]
  omega
end
theorem cut_drop {xs : List V} {n : Nat} (h : n ≤ xs.length) : cutV xs (some (n : Int)) none = xs.drop n := by
  unfold cutV
  rw [HT.sIx_none, HT.sIx_nat, Nat.min_eq_left h, List.take_of_length_le (by rw [List.length_drop]; omega)]
end L2
set_option Elab.async false
set_option linter.all false
set_option maxRecDepth 100000
set_option maxHeartbeats 1000000
namespace L2
open PySem PySem.Spec PyProof.Rows
def tLR (ta : TA) : TE := fun σ H Q => ta σ H fun vs H1 => ∃ j : Nat, vs = [.int (j : Int)] ∧ j ≤ 1000 ∧ ∀ l H', H1 l = none → Same H1 H' → H' l = some (.lst (rngV 0 j)) → Q (.ref l) H'
theorem w_LR {ta : TA} {σ : St} {H : Hp} {Q : VK} : tLR ta σ H Q = (ta σ H fun vs H1 => ∃ j : Nat, vs = [.int (j : Int)] ∧ j ≤ 1000 ∧ ∀ l H', H1 l = none → Same H1 H' → H' l = some (.lst (rngV 0 j)) → Q (.ref l) H') := rfl
def iRngD (ta : TA) : TI := fun σ H R => ta σ H fun vs H1 => ∃ i : Int, vs = [.int i, .int (-1), .int (-1)] ∧ (-1 ≤ i ∧ i < 2 ^ 31) ∧ R (Itr3 i (-1) (i + 1).toNat) H1
theorem size_down {i : Int} (h : -1 ≤ i) : Builtin.Range.rangeSize i (-1) (-1) = i + 1 := by
  unfold Builtin.Range.rangeSize
  rw [if_neg (by decide), show (- -1 : Int) = 1 by decide, Int.ediv_one]
  split <;> omega
theorem small_down {i : Int} (h : -1 ≤ i ∧ i < 2 ^ 31) : Builtin.Range.small i (-1) (-1) = true := by
  unfold Builtin.Range.small
  rw [size_down h.1]
  simp only [Builtin.Range.rangeFitsLong, Bool.and_eq_true, Bool.or_eq_true, decide_eq_true_eq, beq_iff_eq]
  exact ⟨⟨⟨⟨⟨by omega, by omega⟩, by omega, by omega⟩, by omega, by omega⟩, by omega, by omega⟩, .inr (by decide)⟩
theorem pi_rangeD {X : Cx} {tg : Expr} {a b c : Expr} {ta : TA} {p pos : Pos} (hg : Gl X "range") (hm : X.mg "range" = none) (ha : PA X [a, b, c] ta) (hs : starEach [a, b, c] X.env = (false, eval a X.env) :: starEach [b, c] X.env := by rfl) (hpl : (backTo pos (starEach [b, c] X.env)).any (·.1) = false := by rfl) :
    PI X tg (.Call (.Name "range" p) [a, b, c] [] pos) (iRngD ta) := by
  intro pins s σ H R I h
  refine Call_ (ld_blt I hg hm boot_range (PyProof.Rows.callWith_type1 (thn (ha pos pins s σ H _ I h) fun us s1 ⟨vs, H1, I1, r1, q1⟩ => ?_) hs hpl))
  obtain ⟨i, e, hi, q⟩ := q1
  subst e
  cases r1 with
  | cons r rr =>
    cases rr with
    | cons r' rr =>
      cases rr with
      | cons r3 rr =>
        cases rr
        obtain ⟨t, rfl⟩ := r
        obtain ⟨t', rfl⟩ := r'
        obtain ⟨t3, rfl⟩ := r3
        refine call_range_3 (by decide) ?_ (Or.inl (PyProof.noPylong_of_log2 (by decide +kernel)))
        refine wpAny_pyIter_range (IsRange.new ..) (small_down hi) ?_
        have I2 : Inv X pins σ H1 { s1 with heap := s1.heap.push { cls := .type "range", data := .fields #[.int i t, .int (-1) t', .int (-1) t3] }, toks := s1.toks } := I1.kept fun b o e => Heap.get?_push_of_some _ e
        refine ⟨(s1.heap.push { cls := .type "range", data := .fields #[.int i t, .int (-1) t', .int (-1) t3] }).objs.size, [(s1.heap.push { cls := .type "range", data := .fields #[.int i t, .int (-1) t', .int (-1) t3] }).objs.size], _, _, H1, rfl, I2.kept (t' := s1.toks) fun b o e => Heap.get?_push_of_some _ e, turn_range3 _ i (-1) (i + 1).toNat, ?_, fun b hb => ?_, q⟩
        · have e1 : i + ((0 : Nat) : Int) * (-1) = i := by omega
          have e2 : (((i + 1).toNat : Nat) : Int) - ((0 : Nat) : Int) = Builtin.Range.rangeSize i (-1) (-1) := by rw [size_down hi.1]; omega
          show IsRangeIter _ _ (i + ((0 : Nat) : Int) * (-1)) ((((i + 1).toNat : Nat) : Int) - ((0 : Nat) : Int)) (-1)
          rw [e1, e2]
          exact Heap.get?_push_size _ rfl
        · have e : b = (s1.heap.push { cls := .type "range", data := .fields #[.int i t, .int (-1) t', .int (-1) t3] }).objs.size := by simpa using hb
          subst e
          exact I2.fpOk (Nat.le_refl _) (I2.hok.fresh (Nat.le_refl _))
theorem w_forD {σ : St} {H : Hp} {D : Ends} {g : TG} {tb : TS} {ta : TA} : tFor (iRngD ta) g tb D σ H = (ta σ H fun vs H1 => ∃ i : Int, vs = [.int i, .int (-1), .int (-1)] ∧ (-1 ≤ i ∧ i < 2 ^ 31) ∧ ForR3 i (-1) (i + 1).toNat g tb D σ H1) := rfl
section
variable {K : PySem.W.Frag} {σ : St} {H : Hp} {Q : VK} {cs : List Nat} {te : TE}
end
end L2
set_option Elab.async false
set_option linter.all false
set_option maxRecDepth 100000
set_option maxHeartbeats 1000000
namespace L2
open PySem PySem.Spec PyProof.Rows
section
variable {prog : Program} {w : World} {A : Around} {E : Value → Shared → Prop} {s : Shared}
end
section
variable {prog : Program} {w : World} {A : Around} {E : Value → Shared → Prop} {s : Shared}
end
def Itzt (K : PySem.W.Frag) (a b : Addr) : It :=
  ⟨fun i H => ∃ xs ys, SqT K H a xs ∧ SqT K H b ys ∧ i < xs.length ∧ i < ys.length,
   fun i H x H' => ∃ T u v, x = .ref T ∧ H T = none ∧ H' = upd H T (.tup [u, v]) ∧ (∀ xs, SqT K H a xs → xs[i]? = some u) ∧ (∀ ys, SqT K H b ys → ys[i]? = some v),
   fun i H => ∃ xs ys, SqT K H a xs ∧ SqT K H b ys ∧ (xs.length ≤ i ∨ ys.length ≤ i)⟩
def iZip2 (K : PySem.W.Frag) (ta : TA) : TI := fun σ H R => ta σ H fun vs H1 => ∃ a b xs ys, vs = [.ref a, .ref b] ∧ ((SqL K H1 a xs ∧ SqL K H1 b ys ∧ R (Itz K a b) H1) ∨ (SqT K H1 a xs ∧ SqT K H1 b ys ∧ R (Itzt K a b) H1))
theorem w_compZ2 {K : PySem.W.Frag} {σ : St} {H : Hp} {Q : VK} {ta : TA} {nt : Nat} {cs : List Nat} {g : TG} {tt : TT} {te : TE} : tComp (iZip2 K ta) nt cs g tt te σ H Q = (ta σ H fun vs H1 => ∃ a b xs ys, vs = [.ref a, .ref b] ∧ ((SqL K H1 a xs ∧ SqL K H1 b ys ∧ CompIt (Itz K a b) nt cs g tt te σ H1 Q) ∨ (SqT K H1 a xs ∧ SqT K H1 b ys ∧ CompIt (Itzt K a b) nt cs g tt te σ H1 Q))) := rfl
end L2
set_option Elab.async false
set_option linter.all false
set_option maxRecDepth 100000
set_option maxHeartbeats 1000000
namespace L2
open PySem PySem.Spec PyProof.Rows
structure Gt (ins : Nat) (ds : List Wd) (gs : List Go) (i : Nat) (ms : List Nat) : Prop where
  sd : ∀ x ∈ ms, Rch ins ds gs x
  rt : ∀ g ∈ gs, g.sg ≠ 0 → g.th ∈ ms
  cl : ∀ k d, ds[k]? = some d → ds.length ≤ k + i → ins + k ∈ ms → d.a ∈ ms ∧ d.b ∈ ms
  ln : ms.length ≤ gs.length + 2 * i
def kp (bs : List Bool) (ins j : Nat) : Prop := j < ins ∨ bs[j]? = some true
instance (bs : List Bool) (ins j : Nat) : Decidable (kp bs ins j) := by unfold kp; infer_instance
section
variable {ins : Nat} {ds : List Wd} {gs : List Go} {bs : List Bool}
end
section
variable {K : PySem.W.Frag} {σ : St} {H : Hp} {Q : VK} {cs : List Nat} {te : TE}
theorem inV_n (ms : List Nat) (x : Nat) : inV (.int (x : Int)) ((nints ms).map V.int) = decide (x ∈ ms) := by
  unfold inV nints
  rw [List.map_map, List.any_map]
  by_cases h : x ∈ ms
  · rw [decide_eq_true h, List.any_eq_true]
    exact ⟨x, h, by show decide (_ = _) = true; simp⟩
  · rw [decide_eq_false h, List.any_eq_false]
    intro y hy z
    have e : (y : Int) = (x : Int) := by
      have : decide ((y : Int) = (x : Int)) = true := z
      simpa using this
    have : y = x := by omega
    subst this
    exact h hy
end
end L2
set_option Elab.async false
set_option linter.all false
set_option maxRecDepth 100000
set_option maxHeartbeats 1000000
namespace L2
open PySem PySem.Spec PyProof.Rows
def TrX (h : Heap) (e : Addr) (C : Value) (d : Option Addr) (T : Addr) : Prop :=
  ∃ oe vs oT ts, h.get? e = some oe ∧ oe.cls = C ∧ oe.dict = d ∧ oe.data = .fields vs ∧ vs[1]? = some (.ref T) ∧ T ≠ e ∧ h.get? T = some oT ∧ oT.data = .fields ts ∧ ts[3]? = some .none
section
variable {M : Model} {A : Around} {E : Value → Shared → Prop} {s : Shared} {base : Heap} {env : Env} {outer : List Env} {L e : Addr} {oe : Obj} {vs : Array Value} {Q : Unit → Shared → Prop}
end
section
variable {P : Program} {w : World} {K : PySem.W.Frag} {mg : Str → Option Value} {base : Heap} {N : List Str} {qual : Str} {scope : Scope} {f : Addr} {cd : Value} {A : Around} {outer : List Env} {s : Shared} {H : Hp} {E : XK}
end
section
variable {X : Cx} {k : Nat} {x : Str} {ps : List Str} {sp : Sp} {e : Expr} {es : List Expr} {t : TA} {p pos : Pos} {E : XK}
end
section
variable {P : Program} {w : World} {K : PySem.W.Frag} {mg : Str → Option Value} {base : Heap}
end
end L2
set_option Elab.async false
set_option linter.all false
set_option maxRecDepth 100000
set_option maxHeartbeats 1000000
namespace L2
open PySem PySem.Spec PyProof.Rows
section
variable {M : Model} {A : Around} {E : Value → Shared → Prop}
end
end L2
set_option Elab.async false
set_option linter.all false
set_option maxRecDepth 100000
set_option maxHeartbeats 1000000
namespace L2
open PySem PySem.Spec PyProof.Rows
def XP (X : Cx) (pins : List (Addr × Obj)) (σ : St) (E : XK) (e : Value) (s' : Shared) : Prop := ∃ (x T : Addr) (C : Value) (d : Option Addr) (H' : Hp), e = .ref x ∧ Inv X pins σ H' s' ∧ TrX s'.heap x C d T ∧
  (X.s₀.heap.get? x = none ∧ X.s₀.heap.get? T = none) ∧ (∀ p ∈ X.pn ++ pins, p.1 ≠ x ∧ p.1 ≠ T) ∧ H' x = none ∧ H' T = none ∧ E C d H'
end L2
set_option Elab.async false
set_option linter.all false
set_option maxRecDepth 100000
set_option maxHeartbeats 1000000
namespace L2
open PySem PySem.Spec PyProof.Rows
end L2
set_option Elab.async false
set_option linter.all false
set_option maxRecDepth 100000
set_option maxHeartbeats 1000000
namespace L2
open PySem PySem.Spec PyProof.Rows
section
variable {prog : Program} {w : World} {A : Around} {E : Value → Shared → Prop} {s : Shared} {K : PySem.W.Frag} {x D : Addr} {o : Obj}
end
end L2
set_option Elab.async false
set_option linter.all false
set_option maxRecDepth 100000
set_option maxHeartbeats 1000000
namespace L2
open PySem PySem.Spec PyProof.Rows
end L2
set_option Elab.async false
set_option linter.all false
set_option maxRecDepth 100000
set_option maxHeartbeats 1000000
namespace L2
open PySem PySem.Spec
end L2
set_option Elab.async false
set_option linter.all false
set_option maxRecDepth 100000
set_option maxHeartbeats 1000000
namespace L2
open PySem PySem.Spec
end L2
set_option Elab.async false
set_option linter.all false
set_option maxRecDepth 100000
set_option maxHeartbeats 1000000
namespace L2
open PySem PySem.Spec
end L2
set_option Elab.async false
set_option linter.all false
set_option maxRecDepth 100000
set_option maxHeartbeats 1000000
namespace L2
open PySem PySem.Spec
end L2
set_option Elab.async false
set_option linter.all false
set_option maxRecDepth 100000
set_option maxHeartbeats 1000000
namespace L2
open PySem PySem.Spec
end L2
set_option Elab.async false
set_option linter.all false
set_option maxRecDepth 100000
set_option maxHeartbeats 1000000
namespace L2
open PySem PySem.Spec PyProof PyProof.Rows
section
variable {P : Program} {w : World} {A : Around} {E : Value → Shared → Prop} {s : Shared}
end
section
variable {X : Cx}
end
end L2
set_option Elab.async false
set_option linter.all false
set_option maxRecDepth 100000
set_option maxHeartbeats 1000000
namespace L2
open PySem PySem.Spec
section
variable {K : PySem.W.Frag} {σ : St} {H : Hp} {D : Ends} {g : TG} {tb : TS} {a b : Addr}
end
section
variable {K : PySem.W.Frag} {σ : St} {H : Hp} {Q : VK} {cs : List Nat} {te : TE}
end
end L2
set_option Elab.async false
set_option linter.all false
set_option maxRecDepth 100000
set_option maxHeartbeats 1000000
namespace L2
open PySem PySem.Spec
section
variable {g : Int → Int → Int → Int → Int} {z : Int}
end
section
variable {g : Int → Int → Int → Int → Int} {z : Int}
end
end L2
set_option Elab.async false
set_option linter.all false
set_option maxRecDepth 100000
set_option maxHeartbeats 1000000
namespace L2
open PySem PySem.Spec
end L2
set_option Elab.async false
set_option linter.all false
set_option maxRecDepth 100000
set_option maxHeartbeats 1000000
namespace L2
open PySem PySem.Spec
section
variable {K : PySem.W.Frag} {σ : St} {H : Hp} {Q : VK} {cs : List Nat} {te : TE}
end
end L2
set_option Elab.async false
set_option linter.all false
set_option maxRecDepth 100000
set_option maxHeartbeats 1000000
namespace L2
open PySem PySem.Spec PyProof.Rows
section
variable {prog : Program} {w : World} {A : Around} {E : Value → Shared → Prop} {s : Shared}
end
section
variable {prog : Program} {w : World} {A : Around} {E : Value → Shared → Prop} {s : Shared}
end
section
variable {K : PySem.W.Frag} {σ : St} {H : Hp} {D : Ends} {g : TG} {tb : TS} {a b c : Addr}
end
end L2
set_option Elab.async false
set_option linter.all false
set_option maxRecDepth 100000
set_option maxHeartbeats 1000000
namespace L2
open PySem PySem.Spec
end L2
set_option Elab.async false
set_option linter.all false
set_option maxRecDepth 100000
set_option maxHeartbeats 1000000
namespace L2
open PySem PySem.Spec PyProof PyProof.Rows
section
variable {prog : Program} {w : World} {A : Around} {E : Value → Shared → Prop} {s : Shared}
end
section
variable {prog : Program} {w : World} {A : Around} {E : Value → Shared → Prop} {s : Shared}
end
section
variable {K : PySem.W.Frag} {σ : St} {H : Hp} {Q : VK} {cs : List Nat} {te : TE}
end
section
variable {X : Cx}
theorem best_low (val : Nat → Int) : ∀ k i, i ≤ k → val (argBest (fun i j => decide (val i < val j)) k) ≤ val i
  | 0, i, h => by
    have : i = 0 := by omega
    subst this
    exact Int.le_refl _
  | k + 1, i, h => by
    rw [argBest]
    by_cases hb : val (k + 1) < val (argBest (fun i j => decide (val i < val j)) k)
    · rw [if_pos (by simpa using hb)]
      by_cases e : i = k + 1
      · subst e; exact Int.le_refl _
      · have := best_low val k i (by omega)
        omega
    · rw [if_neg (by simpa using hb)]
      by_cases e : i = k + 1
      · subst e; omega
      · exact best_low val k i (by omega)
def rMinG : List V → Hp → VK → Prop := fun xs H Q => ∃ (p : Addr) (ns : List Int), xs = [.ref p] ∧ H p = some (.lst (ns.map V.int)) ∧ ns ≠ [] ∧ ∀ v, v ∈ ns → (∀ n ∈ ns, v ≤ n) → Q (.int v) H
theorem best_at {xs : List (Int × Tok)} {ns : List Int} (e : xs.map (·.1) = ns) {bt : Nat → Nat → Bool} {v : Value} (hv : (xs.map fun p => Value.int p.1 p.2).toArray[argBest bt (xs.length - 1)]? = some v) : ∃ m tk, v = .int m tk ∧ ns[argBest bt (xs.length - 1)]? = some m := by
  rw [List.getElem?_toArray, List.getElem?_map] at hv
  cases hx : xs[argBest bt (xs.length - 1)]? with
  | none => rw [hx] at hv; cases hv
  | some q =>
    rw [hx] at hv
    cases hv
    exact ⟨q.1, q.2, rfl, by rw [← e, List.getElem?_map, hx]; rfl⟩
theorem call_minG (hc : X.calm = true) : CallR X (.builtin "min") rMinG := by
  intro pins s σ H xs us Q I r h
  obtain ⟨p, ns, rfl, hp, hne, q⟩ := h
  obtain ⟨u, rfl, ru⟩ := Vals.one r
  cases ru
  refine call_min_walk (walk_list hc I hp fun its rv s2 st hfp hne2 W hI => ?_)
  obtain ⟨xs, rfl, e⟩ := vals_intItems rv
  have hl : xs.length = ns.length := by rw [← e, List.length_map]
  have hx : 0 < xs.length := by
    rw [hl]
    exact List.length_pos_iff.mpr hne
  refine ⟨_, _, _, _, _, _, fun i j => decide (ns.getD i 0 < ns.getD j 0), rfl, W, st, hfp, by simpa using hx, CmpOf.ints_lt (fun i => ns.getD i 0) (at_int e), fun v h' tk hP hk => ?_⟩
  obtain ⟨m, t, rfl, hm⟩ := best_at e (v := v) (bt := fun i j => decide (ns.getD i 0 < ns.getD j 0)) (by simpa using hP)
  refine ⟨.int m, H, hI h' tk hk, ⟨_, rfl⟩, q m (List.mem_of_getElem? hm) fun n hn => ?_⟩
  obtain ⟨i, hi, rfl⟩ := List.getElem_of_mem hn
  have b := best_low (fun i => ns.getD i 0) (xs.length - 1) i (by omega)
  rw [getD_of hm, getD_of (List.getElem?_eq_getElem hi)] at b
  exact b
end
end L2
set_option Elab.async false
set_option linter.all false
set_option maxRecDepth 100000
set_option maxHeartbeats 1000000
namespace L2
open PySem PySem.Spec
def Lies (w x : Int) : Prop := -(2 ^ (w - 1).toNat) ≤ x ∧ x < 2 ^ (w - 1).toNat
instance (w x : Int) : Decidable (Lies w x) := by unfold Lies; infer_instance
def nz (ns : List Int) : List Int := ns.filter fun n => decide (n ≠ 0)
theorem divBig {i j : Int} (h : 0 < j) (h2 : j.natAbs < 2 ^ 9000) : CDivB i j := ⟨h, (Nat.log2_lt (by omega)).mpr h2⟩
end L2
set_option Elab.async false
set_option linter.all false
set_option maxRecDepth 100000
set_option maxHeartbeats 1000000
namespace L2
open PySem PySem.Spec
end L2
set_option Elab.async false
set_option linter.all false
set_option maxRecDepth 100000
set_option maxHeartbeats 1000000
namespace L2
open PySem PySem.Spec
end L2
set_option Elab.async false
set_option linter.all false
set_option maxRecDepth 100000
set_option maxHeartbeats 1000000
namespace L2
open PySem PySem.Spec
theorem seq_in {t u : TS} {D : Ends} {σ : St} {H : Hp} (h : ∀ R : TS, R = u → tSeq t R D σ H) : tSeq t u D σ H := h u rfl
theorem seq_inG {g : TG} {x : V} {t u : TS} {D : Ends} {σ : St} {H : Hp} (h : ∀ R : TS, R = u → g x σ H fun σ2 H2 => tSeq t R D σ2 H2) : g x σ H fun σ2 H2 => tSeq t u D σ2 H2 := h u rfl
theorem seq_out {R u : TS} {D : Ends} {σ : St} {H : Hp} (e : R = u) (h : u D σ H) : R D σ H := by rw [e]; exact h
end L2
set_option Elab.async false
set_option linter.all false
set_option maxRecDepth 100000
set_option maxHeartbeats 1000000
namespace L2
open PySem PySem.Spec
section
variable {K : PySem.W.Frag} {σ : St} {H : Hp} {Q : VK} {cs : List Nat} {te : TE}
end
end L2
set_option Elab.async false
set_option linter.all false
set_option maxRecDepth 100000
set_option maxHeartbeats 1000000
namespace L2
open PySem PySem.Spec
section
variable {K : PySem.W.Frag} {σ : St} {H : Hp} {Q : VK} {cs : List Nat} {te : TE}
end
end L2
set_option Elab.async false
set_option linter.all false
set_option maxRecDepth 100000
set_option maxHeartbeats 1000000
namespace L2
open PySem PySem.Spec PyProof.Rows
end L2
set_option Elab.async false
set_option linter.all false
set_option maxRecDepth 100000
set_option maxHeartbeats 1000000
namespace L2
open PySem PySem.Spec PyProof.Rows
section
variable {H H' : Hp} {x dl gl : Addr} {ins : Nat} {us : List V} {ds : List Wd} {os : List V} {gs : List Go}
end
section
variable {α : Type} {f : α → List V} {H0 H H' : Hp} {p dl : Addr} {us : List V} {ds : List α}
end
section
variable {H : Hp} {w : Str} {a b d1 g1 d2 g2 : Addr} {i1 i2 : Nat} {u1 u2 : List V} {s1 s2 : List Wd} {o1 o2 : List V} {t1 t2 : List Go} {Q : VK} {E : XK}
end
end L2
set_option Elab.async false
set_option linter.all false
set_option maxRecDepth 100000
set_option maxHeartbeats 1000000
namespace L2
open PySem PySem.Spec PyProof.Rows
section
variable {I ins l m : Nat} {f : Nat → Nat} {ds0 ds : List Wd} {gs0 gs : List Go}
end
end L2
set_option Elab.async false
set_option linter.all false
set_option maxRecDepth 100000
set_option maxHeartbeats 1000000
namespace L2
open PySem PySem.Spec PyProof.Rows
structure HKs {α : Type} (K : PySem.W.Frag) (f : α → List V) (H : Hp) (vs : List V) (xs : List α) : Prop where
  len : vs.length = xs.length
  at_ : ∀ (k : Nat) (x : α), xs[k]? = some x → ∃ p : Addr, vs[k]? = some (.ref p) ∧ SqT K H p (f x)
section
variable {α : Type} {K : PySem.W.Frag} {f : α → List V} {H H' : Hp} {vs us : List V} {xs : List α} {l : Addr}
theorem HTs.hk (h : HTs f H vs xs) : HKs K f H vs xs := ⟨h.len, fun k x e => by
  obtain ⟨p, e1, e2⟩ := h.at_ k x e
  exact ⟨p, e1, SqT.of e2⟩⟩
theorem HKs.same (h : HKs K f H vs xs) (s : Same H H') : HKs K f H' vs xs := ⟨h.len, fun k d e => by
  obtain ⟨x, e1, e2⟩ := h.at_ k d e
  exact ⟨x, e1, s.seqT e2⟩⟩
end
structure WbK (K : PySem.W.Frag) (H : Hp) (w dl gl : Addr) (ins : Nat) (us : List V) (ds : List Wd) (os : List V) (gs : List Go) : Prop where
  tup : H w = some (.tup [.int ins, .ref dl, .ref gl])
  dll : H dl = some (.lst us)
  hds : HTs wTup H us ds
  gll : H gl = some (.lst os)
  hgs : HKs K gTp H os gs
theorem Wb.wk {K : PySem.W.Frag} {H : Hp} {w dl gl : Addr} {ins : Nat} {us : List V} {ds : List Wd} {os : List V} {gs : List Go} (h : Wb H w dl gl ins us ds os gs) : WbK K H w dl gl ins us ds os gs := ⟨h.tup, h.dll, h.hds, h.gll, h.hgs.hk⟩
theorem WbK.same {K : PySem.W.Frag} {H H' : Hp} {w dl gl : Addr} {ins : Nat} {us : List V} {ds : List Wd} {os : List V} {gs : List Go} (h : WbK K H w dl gl ins us ds os gs) (s : Same H H') : WbK K H' w dl gl ins us ds os gs :=
  ⟨s _ _ h.tup, s _ _ h.dll, h.hds.same s, s _ _ h.gll, h.hgs.same s⟩
def sT (n : Nat) : List V := [.int n, .int 0, .int 1]
end L2
set_option Elab.async false
set_option linter.all false
set_option maxRecDepth 100000
set_option maxHeartbeats 1000000
namespace L2
open PySem PySem.Spec PyProof.Rows
section
variable {X : Cx}
end
section
variable {K : PySem.W.Frag} {σ : St} {H : Hp} {Q : VK} {cs : List Nat} {te : TE}
end
theorem FI.stepX {H : Hp} {p a : Addr} {c : Int} {ins : Nat} {tb dl : Addr} {k : Nat} {vs us : List V} {ds : List Wd} {H' H'' : Hp} (h : FI H p ins tb dl k vs us ds H') (F : LPen H' p a c) (C : Chg p H' H'') : FI H p ins tb dl k vs us ds H'' := by
  obtain ⟨xs, hp⟩ := F.lst
  exact ⟨h.wi.stepL hp C, h.sh⟩
theorem FG.stepX {H : Hp} {p a : Addr} {c : Int} {ins : Nat} {tb dl gl : Addr} {k : Nat} {vs us os : List V} {ds : List Wd} {gs : List Go} {H' H'' : Hp} (h : FG H p ins tb dl gl k vs us os ds gs H') (F : LPen H' p a c) (C : Chg p H' H'') : FG H p ins tb dl gl k vs us os ds gs H'' := by
  obtain ⟨xs, hp⟩ := F.lst
  exact ⟨{ h.wg with wi := h.wg.wi.stepL hp C, hrs := h.wg.hrs.chg (by simp) C, gll := C _ _ h.wg.gp h.wg.gll, hgs := h.wg.hgs.chgL hp C }, h.sh, h.go⟩
end L2
set_option Elab.async false
set_option linter.all false
set_option maxRecDepth 100000
set_option maxHeartbeats 1000000
namespace L2
open PySem PySem.Spec PyProof.Rows
section
variable {c : Bool} {i1 i2 : Nat} {s1 s2 : List Wd} {t1 t2 : List Go}
end
section
variable {K : PySem.W.Frag} {σ : St} {H : Hp} {Q : VK} {cs : List Nat} {te : TE}
end
end L2
set_option Elab.async false
set_option linter.all false
set_option maxRecDepth 100000
set_option maxHeartbeats 1000000
namespace L2
open PySem PySem.Spec PyProof.Rows
def Rise (xs : Array Nat) : Prop := ∀ i j (hi : i < xs.size) (hj : j < xs.size), i < j → xs[i] < xs[j]
theorem below_go {xs : Array Nat} (R : Rise xs) (j : Nat) : ∀ (fuel lo hi : Nat), lo ≤ hi → hi ≤ xs.size → hi - lo ≤ fuel → (∀ i (h : i < xs.size), i < lo → xs[i] < j) → (∀ i (h : i < xs.size), hi ≤ i → j ≤ xs[i]) →
    (SetTable.below.go xs j fuel lo hi ≤ xs.size ∧ (∀ i (h : i < xs.size), i < SetTable.below.go xs j fuel lo hi → xs[i] < j) ∧ ∀ i (h : i < xs.size), SetTable.below.go xs j fuel lo hi ≤ i → j ≤ xs[i])
  | 0, lo, hi, h1, h2, h3, h4, h5 => by
    have : lo = hi := by omega
    subst this
    exact ⟨h2, h4, h5⟩
  | fuel + 1, lo, hi, h1, h2, h3, h4, h5 => by
    unfold SetTable.below.go
    by_cases z : lo < hi
    · rw [if_pos z]
      have ml : (lo + hi) / 2 < xs.size := by omega
      have e : xs.getD ((lo + hi) / 2) j = xs[(lo + hi) / 2] := by simp [ml]
      dsimp only
      rw [e]
      by_cases y : xs[(lo + hi) / 2] < j
      · rw [if_pos y]
        refine below_go R j fuel _ _ (by omega) h2 (by omega) (fun i hi' hlt => ?_) h5
        by_cases q : i = (lo + hi) / 2
        · subst q; exact y
        · exact Nat.lt_trans (R i _ hi' ml (by omega)) y
      · rw [if_neg y]
        refine below_go R j fuel _ _ (by omega) (by omega) (by omega) h4 (fun i hi' hge => ?_)
        by_cases q : i = (lo + hi) / 2
        · subst q; omega
        · have := R _ i ml hi' (by omega)
          omega
    · rw [if_neg z]
      have : lo = hi := by omega
      subst this
      exact ⟨h2, h4, h5⟩
theorem below_ok {xs : Array Nat} (R : Rise xs) (j : Nat) : SetTable.below xs j ≤ xs.size ∧ (∀ i (h : i < xs.size), i < SetTable.below xs j → xs[i] < j) ∧ ∀ i (h : i < xs.size), SetTable.below xs j ≤ i → j ≤ xs[i] := by
  unfold SetTable.below
  exact below_go R j _ _ _ (by omega) (Nat.le_refl _) (by omega) (fun i _ h => by omega) (fun i _ h => by omega)
theorem insAt_get {α : Type} (xs : Array α) {p : Nat} (x : α) (hp : p ≤ xs.size) (i : Nat) : (SetTable.insertAt xs p x)[i]? = if i < p then xs[i]? else if i = p then some x else xs[i - 1]? := by
  rw [← Array.getElem?_toList, SetTable.toList_insertAt]
  have lt : (xs.toList.take p).length = p := by rw [List.length_take, Array.length_toList]; omega
  by_cases h1 : i < p
  · rw [if_pos h1, List.getElem?_append_left (by rw [lt]; exact h1), List.getElem?_take_of_lt h1, Array.getElem?_toList]
  · rw [if_neg h1]
    by_cases h2 : i = p
    · rw [if_pos h2, List.getElem?_append_right (by rw [lt]; omega), lt, h2, Nat.sub_self]
      rfl
    · rw [if_neg h2, List.getElem?_append_right (by rw [lt]; omega), lt, show i - p = (i - 1 - p) + 1 by omega, List.getElem?_cons_succ, List.getElem?_drop, Array.getElem?_toList]
      congr 1
      omega
theorem rise_ins {xs : Array Nat} {j : Nat} (R : Rise xs) (hj : xs[SetTable.below xs j]? ≠ some j) : Rise (SetTable.insertAt xs (SetTable.below xs j) j) := by
  obtain ⟨b1, b2, b3⟩ := below_ok R j
  generalize SetTable.below xs j = p at b1 b2 b3 hj
  intro i k hi hk hik
  have ei := insAt_get xs j b1 i
  have ek := insAt_get xs j b1 k
  rw [Array.getElem?_eq_getElem hi] at ei
  rw [Array.getElem?_eq_getElem hk] at ek
  generalize (SetTable.insertAt xs p j)[i] = u at ei
  generalize (SetTable.insertAt xs p j)[k] = v at ek
  have get : ∀ {m w : Nat}, some w = xs[m]? → ∃ h : m < xs.size, xs[m] = w := fun {m w} h => by
    obtain ⟨h1, h2⟩ := Array.getElem?_eq_some_iff.mp h.symm
    exact ⟨h1, h2⟩
  by_cases i1 : i < p
  · rw [if_pos i1] at ei
    obtain ⟨il, rfl⟩ := get ei
    by_cases k1 : k < p
    · rw [if_pos k1] at ek
      obtain ⟨kl, rfl⟩ := get ek
      exact R i k il kl hik
    · rw [if_neg k1] at ek
      by_cases k2 : k = p
      · rw [if_pos k2] at ek
        cases ek
        exact b2 i il i1
      · rw [if_neg k2] at ek
        obtain ⟨kl, rfl⟩ := get ek
        exact R i (k - 1) il kl (by omega)
  · rw [if_neg i1] at ei
    by_cases i2 : i = p
    · rw [if_pos i2] at ei
      cases ei
      rw [if_neg (by omega), if_neg (by omega)] at ek
      obtain ⟨kl, rfl⟩ := get ek
      have hp : p < xs.size := by omega
      have h1 : j ≤ xs[p] := b3 p hp (Nat.le_refl _)
      have h2 : xs[p] ≠ j := fun e => hj (by rw [Array.getElem?_eq_getElem hp, e])
      by_cases q : k - 1 = p
      · simp only [q]; omega
      · have := R p (k - 1) hp kl (by omega)
        omega
    · rw [if_neg i2] at ei
      rw [if_neg (by omega), if_neg (by omega)] at ek
      obtain ⟨il, rfl⟩ := get ei
      obtain ⟨kl, rfl⟩ := get ek
      exact R _ _ il kl (by omega)
theorem rise_list {xs : List Nat} (h : xs.Pairwise (· < ·)) : Rise xs.toArray := fun i j hi hj hij => by
  simp only [List.getElem_toArray]
  exact List.pairwise_iff_getElem.mp h i j (by simpa using hi) (by simpa using hj) hij
structure TabZ (led : Bool) (t : SetTable) : Prop where
  rise : Rise t.place
  dum : t.dummies = #[]
  led_ : t.led = led
theorem tabZ_fresh (led : Bool) : TabZ led (.fresh 0 0 led) := ⟨fun i j hi => by simp [SetTable.fresh] at hi, rfl, rfl⟩
theorem has_nil (j : Nat) : SetTable.has #[] j = false := by
  unfold SetTable.has
  simp
theorem rise_live (owner : Array (Option Nat)) (n : Nat) : ((((List.range n).filterMap fun j => (owner.getD j none).map (j, ·)).map (·.1))).Pairwise (· < ·) := by
  rw [List.pairwise_map]
  refine List.Pairwise.filterMap _ (R := (· < ·)) (fun a a' haa b hb b' hb' => ?_) List.pairwise_lt_range
  cases h1 : owner.getD a none with
  | none => rw [h1] at hb; cases hb
  | some u =>
    cases h2 : owner.getD a' none with
    | none => rw [h2] at hb'; cases hb'
    | some v =>
      rw [h1] at hb
      rw [h2] at hb'
      cases hb
      cases hb'
      exact haa
end L2
set_option Elab.async false
set_option linter.all false
set_option maxRecDepth 100000
set_option maxHeartbeats 1000000
namespace L2
open PySem PySem.Spec PyProof.Rows
abbrev setObj (es : Array (Int × Value)) (ep : Nat) (t : SetTable) : Obj := { cls := .type "set", dict := none, data := .set es ep t }
section
variable {prog : Program} {w : World} {A : Around} {E : Value → Shared → Prop} {s : Shared}
theorem put_at {h : Heap} {a : Addr} {es es' : Array (Int × Value)} {ep : Nat} {t t' : SetTable} (ho : h.get? a = some (setObj es ep t)) : (h.update a (Obj.putSet es' t')).get? a = some (setObj es' (ep + 1) t') := by
  have q := Heap.get?_update_self (Obj.putSet es' t') ho (by rw [putSet_of es' t' rfl]; rfl)
  rw [putSet_of es' t' rfl] at q
  exact q
end
end L2
set_option Elab.async false
set_option linter.all false
set_option maxRecDepth 100000
set_option maxHeartbeats 1000000
namespace L2
open PySem PySem.Spec PyProof.Rows
def ledOf (w : World) : Bool := !w.params.followText "set-order"
section
variable {prog : Program} {w : World} {A : Around} {E : Value → Shared → Prop} {s : Shared}
theorem new_z (a : Value) {Q₁ : Value → Shared → Prop} (h : Q₁ (.ref s.heap.objs.size) { s with heap := s.heap.push (setObj #[] 0 (.fresh 0 0 (ledOf w))) }) :
    codeAny (model prog w) A (.call (.builtin "set.__new__") ⟨[.type "set", a], []⟩) (wants Q₁ E) s := by
  refine codeAny_of_tree ?_
  show wpAny _ A.in1 (checkBuiltinCall "set.__new__" ⟨[.type "set", a], []⟩ >>= fun _ => again (.builtin "set.__new__" ⟨[.type "set", a], []⟩)) _ _ s
  refine wpAny_bind (wpAny_of_eq (PySem.F.newCall_set_1 a) (wpAny_pure ⟨plainId_quiet PySem.F.plain_set_new _, codeAny_builtin PySem.F.entry_set_new ?_⟩))
  rw [Around.under_plainId PySem.F.plain_set_new _]
  unfold Builtin.«set.__new__» Builtin.Frozenset.newClass
  have hsub := sub_set_self
  obtain ⟨h0, g, d, tk, os⟩ := s
  dsimp only
  wp_walk
  refine wpAny_askSetting (wpAny_pure ?_)
  dsimp only
  simp only [newObj]
  exact wpAny_bind (wpAny_alloc (wpAny_pure (wpAny_pure h)))
end
section
variable {prog : Program} {w : World} {A : Around} {R : Result → Shared → Prop} {I : Addr} {fp wr : List Addr} {G : Array GenState → Array GenState → Prop} {P : Nat → Value → Prop} {St : Nat → Shared → Prop}
end
section
variable {prog : Program} {w : World} {A : Around} {E : Value → Shared → Prop} {s : Shared}
theorem callSet {arg : Value} {Q Q₁ : Value → Shared → Prop} (hn : codeAny (model prog w) A.in1 (.call (.builtin "set.__new__") ⟨[.type "set", arg], []⟩) (wants Q₁ E) s)
    (hx : ∀ ob s₁, Q₁ ob s₁ → s₁.TypeIs ob "set" ∧ wpAny (model prog w) A.in1.in1 (Builtin.«set.__init__» ⟨[ob, arg], []⟩)
        (fun fin s' => match fin with | .done f => wants (fun r s₂ => r = .none ∧ Q ob s₂) E (.ok f) s' | .again c' => c'.quiet = true ∧ codeAny (model prog w) A.in1 c' (wants (fun r s₂ => r = .none ∧ Q ob s₂) E) s') (fun e s' => wants (fun r s₂ => r = .none ∧ Q ob s₂) E (.error e) s') s₁) :
    wpAny (model prog w) A (call (.type "set") [arg]) Q E s := by
  obtain ⟨c, tl, hmro⟩ := PySem.F.called_set.mro
  have a1 := PySem.F.called_set.made
  have a2 := PySem.F.called_set.sub
  refine wpAny_call (codeAny_of_tree ?_)
  show wpAny _ _ (callAny (.type "set") _) _ _ _
  refine wpAny_pure ⟨Code.quiet_builtin _ (by decide +kernel), codeAny_builtin PySem.F.entry_type_call ?_⟩
  rw [Around.under_plain (weight_type_call_type "set" [arg] []) rfl]
  have a3 := PySem.F.called_set.notType
  have a4 := PySem.F.called_set.canCreate
  have a5 := PySem.F.typeCall_set_1 arg
  repeat (any_goals (first | assumption | wp_step))
  refine codeAny_mono hn fun r s₁ hr => ?_
  cases r with
  | error e => exact hr
  | ok fl =>
    cases fl with
    | ret ob =>
      obtain ⟨hT, hsi⟩ := hx _ _ hr
      have b1 := PySem.F.called_set.init.lookup
      have b2 := PySem.F.called_set.init.bind ob
      repeat (any_goals (first | assumption | wp_step))
      refine codeAny_mono (codeAny_call_builtin (R := wants (fun r s₂ => r = .none ∧ Q ob s₂) E) PySem.F.called_set.init.plain PySem.F.entry_set_init (PySem.check_set_init_1 hT hsi)) fun r₂ s₂ hr₂ => ?_
      cases r₂ with
      | error e => exact hr₂
      | ok fl₂ =>
        cases fl₂ with
        | ret r =>
          obtain ⟨rfl, hq⟩ := hr₂
          repeat (any_goals (first | assumption | wp_step))
        | _ => exact hr₂.elim
    | _ => exact hr.elim
end
end L2
set_option Elab.async false
set_option linter.all false
set_option maxRecDepth 100000
set_option maxHeartbeats 1000000
namespace L2
open PySem PySem.Spec PyProof.Rows
section
variable {prog : Program} {w : World} {A : Around} {E : Value → Shared → Prop} {s : Shared} {it S : Addr} {f : Value} {i n ep : Nat} {es : Array (Int × Value)} {t : SetTable}
end
end L2
set_option Elab.async false
set_option linter.all false
set_option maxRecDepth 100000
set_option maxHeartbeats 1000000
namespace L2
open PySem PySem.Spec PyProof.Rows
section
variable {prog : Program} {w : World} {A : Around} {E : Value → Shared → Prop} {s : Shared} {S : Addr} {i ep : Nat} {es : Array (Int × Value)} {t : SetTable} {ks : List Int}
end
end L2
set_option Elab.async false
set_option linter.all false
set_option maxRecDepth 100000
set_option maxHeartbeats 1000000
namespace L2
open PySem PySem.Spec PyProof.Rows
section
variable {prog : Program} {w : World} {A : Around} {E : Value → Shared → Prop} {s : Shared} {S it : Addr} {ep : Nat} {es : Array (Int × Value)} {t : SetTable} {ks : List Int}
end
end L2
set_option Elab.async false
set_option linter.all false
set_option maxRecDepth 100000
set_option maxHeartbeats 1000000
namespace L2
open PySem PySem.Spec PyProof.Rows
section
variable {prog : Program} {w : World} {A : Around} {E : Value → Shared → Prop} {s : Shared} {T : String} {r : Addr} {C : Nat → (Nat → Value → Prop) → Prop} {OK : Heap → Prop}
end
section
variable {X : Cx}
end
end L2
set_option Elab.async false
set_option linter.all false
set_option maxRecDepth 100000
set_option maxHeartbeats 1000000
namespace L2
open PySem PySem.Spec PyProof.Rows
section
variable {X : Cx}
end
end L2
set_option Elab.async false
set_option linter.all false
set_option maxRecDepth 100000
set_option maxHeartbeats 1000000
namespace L2
open PySem PySem.Spec PyProof.Rows
section
variable {X : Cx}
end
end L2
set_option Elab.async false
set_option linter.all false
set_option maxRecDepth 100000
set_option maxHeartbeats 1000000
namespace L2
open PySem PySem.Spec PyProof.Rows
section
variable {ins : Nat} {ds : List Wd}
end
section
variable {ins : Nat} {ds : List Wd} {j lo : Nat} {far : List Int}
end
end L2
set_option Elab.async false
set_option linter.all false
set_option maxRecDepth 100000
set_option maxHeartbeats 1000000
namespace L2
open PySem PySem.Spec PyProof.Rows
section
variable {K : PySem.W.Frag} {σ : St} {H : Hp} {Q : VK} {cs : List Nat} {te : TE}
end
end L2
set_option Elab.async false
set_option linter.all false
set_option maxRecDepth 100000
set_option maxHeartbeats 1000000
namespace L2
open PySem PySem.Spec PyProof.Rows
section
variable {K : PySem.W.Frag} {σ : St} {H : Hp} {Q : VK} {cs : List Nat} {tt : TT} {te : TE}
theorem comp_ofF {α : Type} {l : Addr} {vs : List V} {xs : List α} (hl : H l = some (.lst vs)) (hlen : vs.length = xs.length) (hz : xs.length ≤ 1000) (f : α → Option Int)
    (hb : ∀ (k : Nat) v x H' (R : Option V → Hp → Prop), vs[k]? = some v → xs[k]? = some x → Same H H' → (∀ H5, Same H' H5 → R ((f x).map V.int) H5) → tt (some v :: capV cs σ) H' fun b H4 => if b = true then te (some v :: capV cs σ) H4 fun y H5 => R (some y) H5 else R none H4)
    (hd : ∀ acc H', H acc = none → Same H H' → H' acc = some (.lst ((xs.filterMap f).map V.int)) → Q (.ref acc) H') : CompIt (Itl K l) 1 cs (gName 0) tt te σ H Q := by
  refine comp_any xs.length (fun acc i ws H' => Same H H' ∧ H acc = none ∧ H' acc = some (.lst ws) ∧ ws = ((xs.take i).filterMap f).map V.int) (le_size hz) ?_ ?_ ?_ ?_ ?_ ?_
  · rintro acc i ws H' hi ⟨s, _⟩
    exact ⟨vs, vs[i]'(by omega), SqL.of (s _ _ hl), List.getElem?_eq_getElem _⟩
  · rintro acc ws H' ⟨s, _⟩
    exact ⟨vs, SqL.of (s _ _ hl), by omega⟩
  · intro acc ha
    exact ⟨same_new ha _, ha, upd_same, rfl⟩
  · rintro acc i ws H' ⟨s, _, ha, hw⟩
    refine ⟨ha, ?_⟩
    rw [hw, List.length_map]
    exact Nat.le_trans (List.length_filterMap_le _ _) (by rw [List.length_take]; omega)
  · rintro acc i ws H' ts v H2 N hn hi ⟨s, hn', ha, hw⟩ ⟨rfl, hx0⟩ hts hN
    have hx := hx0 vs (SqL.of (s _ _ hl))
    have e1 : xs[i]? = some xs[i] := List.getElem?_eq_getElem hi
    generalize xs[i] = x at e1
    obtain ⟨t0, rfl⟩ : ∃ t0, ts = [t0] := by
      match ts, hts with
      | [a], _ => exact ⟨a, rfl⟩
    rw [w_gName]
    have tk : xs.take (i + 1) = xs.take i ++ [x] := by rw [List.take_add_one, e1]; rfl
    refine hb i v x H2 (fun o H5 => match o with | some y => H5 acc = some (.lst ws) ∧ N (ws ++ [y]) (some v :: capV cs σ) (upd H5 acc (.lst (ws ++ [y]))) | none => N ws (some v :: capV cs σ) H5) hx e1 s fun H5 s5 => ?_
    cases hf : f x with
    | none =>
      refine hN _ [some v] _ rfl ⟨s.trans s5, hn', s5 _ _ ha, ?_⟩
      rw [hw, tk, List.filterMap_append, List.filterMap_cons, hf]
      simp
    | some y =>
      refine ⟨s5 _ _ ha, hN _ [some v] _ rfl ⟨same_upd hn (s.trans s5), hn', upd_same, ?_⟩⟩
      rw [hw, tk, List.filterMap_append, List.map_append, List.filterMap_cons, hf]
      rfl
  · rintro acc ws H' hn ⟨s, _, ha, hw⟩
    refine hd acc H' hn s ?_
    rw [ha, hw, List.take_of_length_le (Nat.le_refl _)]
end
end L2
set_option Elab.async false
set_option linter.all false
set_option maxRecDepth 100000
set_option maxHeartbeats 1000000
namespace L2
open PySem PySem.Spec PyProof.Rows
section
variable {X : Cx}
end
end L2
set_option Elab.async false
set_option linter.all false
set_option maxRecDepth 100000
set_option maxHeartbeats 1000000
namespace L2
open PySem PySem.Spec PyProof.Rows
theorem oddU : ∀ (a b : Nat) {m n : Int}, m % 2 = 1 → n % 2 = 1 → m * 2 ^ a = n * 2 ^ b → m = n
  | 0, 0, m, n, _, _, h => by simpa using h
  | 0, b + 1, m, n, hm, _, h => by
    rw [Int.pow_succ, ← Int.mul_assoc, Int.pow_zero, Int.mul_one] at h
    omega
  | a + 1, 0, m, n, _, hn, h => by
    rw [Int.pow_succ, ← Int.mul_assoc, Int.pow_zero, Int.mul_one] at h
    omega
  | a + 1, b + 1, m, n, hm, hn, h => by
    rw [Int.pow_succ, Int.pow_succ, ← Int.mul_assoc, ← Int.mul_assoc] at h
    exact oddU a b hm hn (by omega)
theorem core_abs {n : Int} (h : n ≠ 0) : ∃ k : Nat, (n.natAbs : Int) = coreN n * 2 ^ k := by
  obtain ⟨c1, c2, k, c3, c4, c5, _⟩ := core_props h
  refine ⟨k, ?_⟩
  have pp := Int.mul_pos c1 (pow_pos2 k)
  generalize coreN n * 2 ^ k = g at c4 pp
  rcases c5 with e | e <;> rw [e] at c4 <;> omega
theorem core_is {n m : Int} {k : Nat} (hn : n ≠ 0) (hm : m % 2 = 1) (h : (n.natAbs : Int) = m * 2 ^ k) : coreN n = m := by
  obtain ⟨j, e⟩ := core_abs hn
  exact oddU j k (core_props hn).2.1 hm (by rw [← e, h])
theorem coreN_neg (n : Int) : coreN (-n) = coreN n := by
  by_cases h : n = 0
  · subst h; rfl
  · obtain ⟨k, e⟩ := core_abs h
    exact core_is (k := k) (by omega) (core_props h).2.1 (by rw [← e]; omega)
def pm (some_ : List Int) (h : Int) : List Int := some_.flatMap fun r => [h + r, h - r]
end L2
set_option Elab.async false
set_option linter.all false
set_option maxRecDepth 100000
set_option maxHeartbeats 1000000
namespace L2
open PySem PySem.Spec PyProof.Rows
section
variable {K : PySem.W.Frag} {σ : St} {H : Hp} {Q : VK} {cs : List Nat} {te : TE}
end
end L2
set_option Elab.async false
set_option linter.all false
set_option maxRecDepth 100000
set_option maxHeartbeats 1000000
namespace L2
open PySem PySem.Spec PyProof.Rows
section
variable {prog : Program} {w : World} {A : Around} {E : Value → Shared → Prop} {s : Shared} {K : PySem.W.Frag} {x C dx : Addr} {ox : Obj} {name : Str} {v : Value}
end
section
variable {prog : Program} {w : World} {A : Around} {E : Value → Shared → Prop} {h : Heap} {g : Array GenState} {d : Drawn} {t : Nat} {os : OsState}
variable {nm q : Str} {C N : Addr} {bs bm bmB : List Value} {hdct : Bool} {sn : List Str} {sub : List Value} {ab : Bool} {col : Option Bool} {dd : Option Addr} {k0 k1 k2 k3 k5 : Option Value} {B newId initId : String}
end
end L2
set_option Elab.async false
set_option linter.all false
set_option maxRecDepth 100000
set_option maxHeartbeats 1000000
namespace L2
open PySem PySem.Spec PyProof.Rows
section
variable {X : Cx} {pins : List (Addr × Obj)} {σ : St} {H : Hp} {s : Shared} {x C t : Addr} {f : Str}
end
end L2
set_option Elab.async false
set_option linter.all false
set_option maxRecDepth 100000
set_option maxHeartbeats 1000000
namespace L2
open PySem PySem.Spec PyProof.Rows
section
variable {M : Model} {A : Around} {E : Value → Shared → Prop} {env : Env}
variable {nm q : Str} {C N : Addr} {bs bm : List Value} {hdct : Bool} {sn : List Str} {sub : List Value} {ab : Bool} {col : Option Bool} {dd : Option Addr} {k0 k1 k2 k3 k5 : Option Value} {newId : String}
end
section
variable {X : Cx} {C : Addr} {f : Str}
end
end L2
set_option Elab.async false
set_option linter.all false
set_option maxRecDepth 100000
set_option maxHeartbeats 1000000
namespace L2
open PySem PySem.Spec PyProof.Rows
section
variable {prog : Program} {w : World} {A : Around} {E : Value → Shared → Prop} {s : Shared} {K : PySem.W.Frag} {x D : Addr} {o : Obj} {od : Option Obj}
end
end L2
set_option Elab.async false
set_option linter.all false
set_option maxRecDepth 100000
set_option maxHeartbeats 1000000
namespace L2
open PySem PySem.Spec PyProof.Rows
section
variable {α : Type} {p : α → Bool} {l : List α} {i : Nat} {x : α}
end
section
variable {K : PySem.W.Frag} {σ : St} {H : Hp} {Q : VK} {cs : List Nat} {te : TE}
end
section
variable {K : PySem.W.Frag} {σ : St} {H : Hp} {Q : VK} {cs : List Nat} {te : TE}
end
end L2
set_option Elab.async false
set_option linter.all false
set_option maxRecDepth 100000
set_option maxHeartbeats 1000000
namespace L2
open PySem PySem.Spec PyProof.Rows
end L2
set_option Elab.async false
set_option linter.all false
set_option maxRecDepth 100000
set_option maxHeartbeats 1000000
namespace L2
open PySem PySem.Spec PyProof.Rows PySem.W
section
variable {key : Nat → Int} {n : Nat} {p q : Array Nat}
end
end L2
set_option Elab.async false
set_option linter.all false
set_option maxRecDepth 100000
set_option maxHeartbeats 1000000
namespace L2
open PySem PySem.Spec PyProof.Rows PySem.W
section
variable {prog : Program} {w : World} {A : Around} {E : Value → Shared → Prop} {s : Shared} {vs : List Value} {ks : List Int}
end
end L2
set_option Elab.async false
set_option linter.all false
set_option maxRecDepth 100000
set_option maxHeartbeats 1000000
namespace L2
open PySem PySem.Spec PyProof.Rows PySem.W
section
variable {K : PySem.W.Frag} {σ : St} {H : Hp} {Q : VK} {cs : List Nat} {te : TE}
end
end L2
set_option Elab.async false
set_option linter.all false
set_option maxRecDepth 100000
set_option maxHeartbeats 1000000
namespace L2
open PySem PySem.Spec PyProof.Rows
end L2
set_option Elab.async false
set_option linter.all false
set_option maxRecDepth 100000
set_option maxHeartbeats 1000000
namespace L2
open PySem PySem.Spec PyProof.Rows
section
variable {X : Cx} {pos : Pos}
end
def rIsB : R2 := fun x y H Q => ∃ b c, x = .bl b ∧ y = .bl c ∧ Q (.bl (decide (b = c))) H
theorem op_isB {X : Cx} : OpR X (compareOp .Is) rIsB := by
  rintro pins s σ H x y v u Q I r1 r2 ⟨b, c, rfl, rfl, q⟩
  cases r1
  cases r2
  refine wpAny_is_plain rfl ⟨.bl _, H, I, ?_, q⟩
  cases b <;> cases c <;> rfl
end L2
set_option Elab.async false
set_option linter.all false
set_option maxRecDepth 100000
set_option maxHeartbeats 1000000
namespace L2
open PySem PySem.Spec PyProof.Rows
end L2
set_option Elab.async false
set_option linter.all false
set_option maxRecDepth 100000
set_option maxHeartbeats 1000000
namespace L2
open PySem PySem.Spec PyProof.Rows
def g0 : Go := ⟨0, 0, 0⟩
end L2
set_option Elab.async false
set_option linter.all false
set_option maxRecDepth 100000
set_option maxHeartbeats 1000000
namespace L2
open PySem PySem.Spec PyProof.Rows
def spDArrK (K : PySem.W.Frag) : Sp := fun vs H Q _ => ∃ (w dl gl : Addr) (ins : Nat) (us : List V) (ds : List Wd) (os : List V) (gs : List Go), vs = [.ref w] ∧ WbK K H w dl gl ins us ds os gs ∧ ds.length ≤ 400 ∧
  ∀ r ws H', H r = none → Same H H' → H' r = some (.lst ws) → HTs aTup H' ws (arrF ins 0 ds) → Q (.ref r) H'
section
variable {K : PySem.W.Frag} {σ : St} {H : Hp} {Q : VK} {cs : List Nat} {te : TE} {tt : TT}
end
end L2
set_option Elab.async false
set_option linter.all false
set_option maxRecDepth 100000
set_option maxHeartbeats 1000000
namespace L2
open PySem PySem.Spec PyProof.Rows
def Sh4 (s : Int) (r : List Int) : Prop := -4000 ≤ s ∧ s ≤ 4000 ∧ Dv s r
theorem Sh.s4 {s : Int} {r : List Int} (h : Sh s r) : Sh4 s r := ⟨by have := h.1; omega, by have := h.2.1; omega, h.2.2⟩
structure FW4 (ins : Nat) (ds : List Wd) (gs : List Go) : Prop where
  ok : WebOk ins ds gs
  sh : ∀ (k : Nat) (d : Wd), ds[k]? = some d → d.a < ins + k ∧ d.b < ins + k ∧ Sh4 d.s ((rowsW ins ds).getD d.a []) ∧ Sh4 d.t ((rowsW ins ds).getD d.b [])
  go : ∀ g ∈ gs, g = ⟨0, 0, 0⟩ ∨ ((g.sg = 1 ∨ g.sg = -1) ∧ Sh4 g.sh ((rowsW ins ds).getD g.th []))
  rb : RB 8000 (rowsW ins ds)
  wd : ∀ r ∈ rowsW ins ds, r.length = ins
theorem FWeb.f4 {ins : Nat} {ds : List Wd} {gs : List Go} (F : FWeb ins ds gs) : FW4 ins ds gs :=
  ⟨F.ok, fun k d h => ⟨(F.sh k d h).1, (F.sh k d h).2.1, (F.sh k d h).2.2.1.s4, (F.sh k d h).2.2.2.s4⟩, fun g hg => (F.go g hg).imp id fun z => ⟨z.1, z.2.s4⟩,
    fun r hr => ⟨(F.rb r hr).1, fun n hn => Nat.le_trans ((F.rb r hr).2 n hn) (Nat.pow_le_pow_right (by decide) (by have := F.ok.dl; omega))⟩, F.wd⟩
section
variable {ins m : Nat} {s1 s2 : List Wd} {t1 t2 : List Go}
end
end L2
set_option Elab.async false
set_option linter.all false
set_option maxRecDepth 100000
set_option maxHeartbeats 1000000
namespace L2
open PySem PySem.Spec PyProof.Rows
section
variable {K : PySem.W.Frag} {σ : St} {H : Hp} {Q : VK} {cs : List Nat} {te : TE}
end
section
variable {K : PySem.W.Frag} {σ : St} {H : Hp} {Q : VK} {cs : List Nat} {te : TE}
end
end L2
set_option Elab.async false
set_option linter.all false
set_option maxRecDepth 100000
set_option maxHeartbeats 1000000
namespace L2
open PySem PySem.Spec PyProof.Rows
end L2
set_option Elab.async false
set_option linter.all false
set_option maxRecDepth 100000
set_option maxHeartbeats 1000000
namespace L2
open PySem PySem.Spec PyProof.Rows
end L2
set_option Elab.async false
set_option linter.all false
set_option maxRecDepth 100000
set_option maxHeartbeats 1000000
namespace L2
open PySem PySem.Spec PyProof.Rows
section
variable {ins : Nat} {ds : List Wd} {gs : List Go} {μ : List Int} {B : Int}
end
section
variable {ins : Nat} {ds : List Wd} {gs : List Go} {μ : List Int} {B : Int}
end
end L2
set_option Elab.async false
set_option linter.all false
set_option maxRecDepth 100000
set_option maxHeartbeats 1000000
namespace L2
open PySem PySem.Spec PyProof.Rows
def spCntK (K : PySem.W.Frag) : Sp := fun vs H Q _ => ∃ (w dl gl : Addr) (ins : Nat) (us : List V) (ds : List Wd) (os : List V) (gs : List Go), vs = [.ref w] ∧ WbK K H w dl gl ins us ds os gs ∧ Q (.int ((ins : Int) + (ds.length : Nat))) H
section
variable {α : Type} {K : PySem.W.Frag} {f : α → List V} {H H' : Hp} {vs us : List V} {xs : List α} {l : Addr}
end
section
variable {K : PySem.W.Frag} {σ : St} {H : Hp} {Q : VK} {cs : List Nat} {te : TE}
end
end L2
set_option Elab.async false
set_option linter.all false
set_option maxRecDepth 100000
set_option maxHeartbeats 1000000
namespace L2
open PySem PySem.Spec PyProof.Rows
section
variable {H : Hp} {p dl gl a : Addr} {ins k n j : Nat} {us os : List V} {ds : List Wd} {gs : List Go} {H' H'' : Hp} {c : Int}
end
end L2
set_option Elab.async false
set_option linter.all false
set_option maxRecDepth 100000
set_option maxHeartbeats 1000000
namespace L2
open PySem PySem.Spec PyProof.Rows
section
variable {K : PySem.W.Frag} {σ : St} {H : Hp} {Q : VK} {cs : List Nat} {tt : TT}
end
end L2
set_option Elab.async false
set_option linter.all false
set_option maxRecDepth 100000
set_option maxHeartbeats 1000000
namespace L2
open PySem PySem.Spec PyProof.Rows
section
variable {K : PySem.W.Frag} {σ : St} {H : Hp} {Q : VK} {cs : List Nat} {te : TE}
end
end L2
set_option Elab.async false
set_option linter.all false
set_option maxRecDepth 100000
set_option maxHeartbeats 1000000
namespace L2
open PySem PySem.Spec PyProof.Rows
def spShRowN : Sp := fun vs H Q _ => ∃ (l : Addr) (s : Int) (xs : List Int), vs = [.ref l, .int s] ∧ H l = some (.tup (iT xs)) ∧ xs.length ≤ 100 ∧ (∀ x ∈ xs, x.natAbs < 2 ^ 9000) ∧ -4000 ≤ s ∧ s ≤ 4000 ∧
  ∀ r H', H r = none → Same H H' → H' r = some (.lst (xs.map fun n => shV n s)) → Q (.ref r) H'
theorem shRV_mapN {s : Int} : ∀ r : List Int, (r.map V.int).filterMap (shRV s) = r.map fun n => shV n s
  | [] => rfl
  | a :: r => by
    rw [List.map_cons, List.filterMap_cons, List.map_cons, ← shRV_mapN r]
    rfl
end L2
set_option Elab.async false
set_option linter.all false
set_option maxRecDepth 100000
set_option maxHeartbeats 1000000
namespace L2
open PySem PySem.Spec PyProof.Rows
def spDRow4 (K : PySem.W.Frag) : Sp := fun vs H Q _ => ∃ (x l : Addr) (d : Wd) (ys : List V) (rs : List (List Int)) (ins : Nat), vs = [.ref x, .ref l] ∧ SqT K H x (wTup d) ∧ H l = some (.lst ys) ∧ HTs iT H ys rs ∧ d.a < rs.length ∧ d.b < rs.length ∧ Sh4 d.s (rs.getD d.a []) ∧ Sh4 d.t (rs.getD d.b []) ∧ (∀ r ∈ rs, r.length = ins) ∧ ins ≤ 12 ∧ RB 8000 rs ∧
  ∀ r H', H r = none → Same H H' → H' r = some (.tup (iT (rowD rs d))) → Q (.ref r) H'
def spSecond (K : PySem.W.Frag) : Sp := fun vs H Q _ => ∃ (x : Addr) (d : Wd), vs = [.ref x] ∧ SqT K H x (wTup d) ∧ Q (.int (sgW d.w)) H
theorem shV_map4 {s : Int} {r : List Int} (h : Dv s r) : (r.map fun n => shV n s) = (r.map (mvI s)).map V.int := by rw [← shRV_map h, shRV_mapN]
end L2
set_option Elab.async false
set_option linter.all false
set_option maxRecDepth 100000
set_option maxHeartbeats 1000000
namespace L2
open PySem PySem.Spec PyProof.Rows
section
variable {prog : Program} {w : World} {A : Around} {E : Value → Shared → Prop} {s : Shared}
end
end L2
set_option Elab.async false
set_option linter.all false
set_option maxRecDepth 100000
set_option maxHeartbeats 1000000
namespace L2
open PySem PySem.Spec PyProof.Rows
end L2
set_option Elab.async false
set_option linter.all false
set_option maxRecDepth 100000
set_option maxHeartbeats 1000000
namespace L2
open PySem PySem.Spec PyProof.Rows
end L2
set_option Elab.async false
set_option linter.all false
set_option maxRecDepth 100000
set_option maxHeartbeats 1000000
namespace L2
open PySem PySem.Spec PyProof.Rows
section
variable {K : PySem.W.Frag} {H : Hp}
end
end L2
set_option Elab.async false
set_option linter.all false
set_option maxRecDepth 100000
set_option maxHeartbeats 1000000
namespace L2
open PySem PySem.Spec PyProof.Rows
end L2
set_option Elab.async false
set_option linter.all false
set_option maxRecDepth 100000
set_option maxHeartbeats 1000000
namespace L2
open PySem PySem.Spec PyProof.Rows
end L2
set_option Elab.async false
set_option linter.all false
set_option maxRecDepth 100000
set_option maxHeartbeats 1000000
namespace L2
open PySem PySem.Spec PyProof.Rows
end L2
set_option Elab.async false
set_option linter.all false
set_option maxRecDepth 100000
set_option maxHeartbeats 1000000
namespace L2
open PySem PySem.Spec PyProof.Rows
@[elab_as_elim] theorem abs_ {C : Hp → Prop} {H : Hp} {p : Addr} {o : HO} (np : H p = none) (k : ∀ H', Same H H' → H' p = some o → C H') : C (upd H p o) := k _ (same_new np _) upd_same
def NoT (H : Hp) (v : V) : Prop := flatV v = true ∨ ∃ p, v = .ref p ∧ ((∃ xs, H p = some (.lst xs)) ∨ ∃ kvs, H p = some (.dK kvs))
section
variable {K : PySem.W.Frag} {H : Hp}
end
theorem ne_nilW {K : PySem.W.Frag} {H : Hp} {Q : VK} {l e : Addr} {us : List V} {ds : List Wd} (h : H l = some (.lst us)) (ht : HTs wTup H us ds) (he : H e = some (.lst [])) (q : Q (.bl (!decide (ds = []))) H) : rNeD K (.ref l) (.ref e) H Q := by
  refine ⟨l, tupsDt wTup ds, .l [], rfl, tups_is (fun _ => rfl) h ht, ?_, dep_tups _, ?_⟩
  · rw [Is]
    exact ⟨e, [], rfl, SqL.of he, by rw [IsL]⟩
  · cases ds with
    | nil => exact q
    | cons d r => exact q
end L2
set_option Elab.async false
set_option linter.all false
set_option maxRecDepth 100000
set_option maxHeartbeats 1000000
namespace L2
open PySem PySem.Spec PyProof.Rows
section
variable {X : Cx} {o i : Expr} {pos : Pos} {td ty : TE}
end
section
variable {σ : St} {H : Hp} {Q : VK} {a : Addr}
end
section
variable {α : Type}
def lk (rows : List (Int × α)) (c : Int) : Option α := (rows.find? fun r => decide (r.1 = c)).map (·.2)
variable {R : V → α → Prop} {kvs : List (Key × V)} {rows : List (Int × α)}
end
end L2
set_option Elab.async false
set_option linter.all false
set_option maxRecDepth 100000
set_option maxHeartbeats 1000000
namespace L2
open PySem PySem.Spec PyProof.Rows
section
variable {σ : St} {H : Hp} {D : Ends} {g : TG} {tb : TS} {d : Addr} {o : Obj} {kvs : List (Key × V)}
end
theorem w_dget2 {td ty tx : TE} {σ : St} {H : Hp} {Q : VK} : tDGet2 td ty tx σ H Q = (td σ H fun x H1 => ∃ a, x = .ref a ∧ IsD H1 a ∧ ty σ H1 fun y H2 => tx σ H2 fun z H3 => ∃ o, DGet H3 a y o ∧ Q (o.getD z) H3) := rfl
section
variable {L : Nat} {n : Int}
end
end L2
set_option Elab.async false
set_option linter.all false
set_option maxRecDepth 100000
set_option maxHeartbeats 1000000
namespace L2
open PySem PySem.Spec PyProof.Rows
section
variable {X : Cx}
end
end L2
set_option Elab.async false
set_option linter.all false
set_option maxRecDepth 100000
set_option maxHeartbeats 1000000
namespace L2
open PySem PySem.Spec PyProof.Rows PySem.W
section
variable {prog : Program} {w : World} {A : Around} {E : Value → Shared → Prop} {s : Shared} {vs : List Value} {xss : List (List Int)} {a : Addr}
end
end L2
set_option Elab.async false
set_option linter.all false
set_option maxRecDepth 100000
set_option maxHeartbeats 1000000
namespace L2
open PySem PySem.Spec PyProof.Rows
end L2
set_option Elab.async false
set_option linter.all false
set_option maxRecDepth 100000
set_option maxHeartbeats 1000000
namespace L2
open PySem PySem.Spec PyProof.Rows PySem.W
section
variable {prog : Program} {w : World} {A : Around} {E : Value → Shared → Prop} {κ : SortKind} {it : Array Keyed} {vs : List Value} {s : Shared}
variable {xss : List (List Int)} {a : Addr}
end
end L2
set_option Elab.async false
set_option linter.all false
set_option maxRecDepth 100000
set_option maxHeartbeats 1000000
namespace L2
open PySem PySem.Spec PyProof.Rows
end L2
set_option Elab.async false
set_option linter.all false
set_option maxRecDepth 100000
set_option maxHeartbeats 1000000
namespace L2
open PySem PySem.Spec PyProof.Rows
section
variable {prog : Program} {w : World} {A : Around} {E : Value → Shared → Prop}
end
end L2
set_option Elab.async false
set_option linter.all false
set_option maxRecDepth 100000
set_option maxHeartbeats 1000000
namespace L2
open PySem PySem.Spec PyProof.Rows
inductive Tg where
  | f (x : V)
  | l (xs : List Tg)
  | t (xs : List Tg)
  | d (xs : List Tg)
section
variable {X : Cx} {pins : List (Addr × Obj)} {σ : St} {H : Hp} {s : Shared}
end
abbrev FSt := Int × Int × Int
def mx1 (d st : Int) : Int := (d + 40692 * st * st + 69621 * st) % 2147483647
def mx2 (m st : Int) : Int := (m * m + 39373 * m + st) % 2147483579
def mx3 (m : Int) : Int := (m * m + 16807 * m) % 2147483549
def tkS (m : Int) (s : FSt) : Int × FSt := if s.1 > 0 then (s.1 % m, (s.1 / m, s.2.1, s.2.2)) else (mx3 (mx2 (mx1 s.2.1 (s.2.2 + 1)) (s.2.2 + 1)) / 64 % m, (s.1, s.2.1, s.2.2 + 1))
def tk : Nat → Int → FSt → Int × FSt
  | 0, _, s => (0, s)
  | n + 1, m, s => if m > 10000000 then (((tk n (m / 1000000 + 1) s).1 * 1000000 + (tk n 1000000 (tk n (m / 1000000 + 1) s).2).1) % m, (tk n 1000000 (tk n (m / 1000000 + 1) s).2).2) else tkS m s
def pk (xs : List Int) (i : Int) : Int := xs.getD i.toNat 0
def pkV (xs : List V) (i : Int) : V := xs.getD i.toNat .non
def txs : List V := [.str (Str.ofString ""), .str (Str.ofString "0"), .str (Str.ofString "7"), .str (Str.ofString "-1"), .str (Str.ofString "True"), .str (Str.ofString "None")]
def flt (way : Int) (s : FSt) : Tg × FSt :=
  if way < 3 then (.f (.int (tk 10 (pk [3, 1000, 10 ^ 60] way) s).1), (tk 10 (pk [3, 1000, 10 ^ 60] way) s).2)
  else if way < 5 then (.f (.int (-(tk 10 (pk [9, 10 ^ 60] (way - 3)) s).1)), (tk 10 (pk [9, 10 ^ 60] (way - 3)) s).2)
  else if way = 5 then (.f (pkV [.bl true, .bl false, .non] (tk 10 3 s).1), (tk 10 3 s).2)
  else (.f (pkV txs (tk 10 6 s).1), (tk 10 6 s).2)
section
variable {σ : St} {H : Hp} {Q : VK} {cs : List Nat} {te : TE}
end
section
variable {σ : St} {H : Hp} {Q : VK} {cs : List Nat} {te : TE}
end
end L2
set_option Elab.async false
set_option linter.all false
set_option maxRecDepth 100000
set_option maxHeartbeats 1000000
namespace L2
open PySem PySem.Spec PyProof.Rows PySem.W
end L2
set_option Elab.async false
set_option linter.all false
set_option maxRecDepth 100000
set_option maxHeartbeats 1000000
namespace L2
open PySem PySem.Spec PyProof.Rows PySem.W
section
variable {σ : St} {H : Hp} {Q : VK} {cs : List Nat} {te : TE} {K : PySem.W.Frag}
end
end L2
set_option Elab.async false
set_option linter.all false
set_option maxRecDepth 100000
set_option maxHeartbeats 1000000
namespace L2
open PySem PySem.Spec PyProof.Rows PySem.W
end L2
set_option Elab.async false
set_option linter.all false
set_option maxRecDepth 100000
set_option maxHeartbeats 1000000
namespace L2
open PySem PySem.Spec PyProof.Rows PySem.W
section
variable {prog : Program} {w : World} {A : Around} {E : Value → Shared → Prop} {s : Shared}
end
section
variable {prog : Program} {w : World} {d : Addr} {es : Array DictEntry} {ep : Nat}
end
end L2
set_option Elab.async false
set_option linter.all false
set_option maxRecDepth 100000
set_option maxHeartbeats 1000000
namespace L2
open PySem PySem.Spec PyProof.Rows PySem.W
section
variable {prog : Program} {w : World} {A : Around} {E : Value → Shared → Prop} {s : Shared}
end
end L2
set_option Elab.async false
set_option linter.all false
set_option maxRecDepth 100000
set_option maxHeartbeats 1000000
namespace L2
open PySem PySem.Spec PyProof.Rows PySem.W
section
variable {σ : St} {H : Hp} {Q : VK} {cs : List Nat} {te : TE} {K : PySem.W.Frag}
end
end L2
set_option Elab.async false
set_option linter.all false
set_option maxRecDepth 100000
set_option maxHeartbeats 1000000
namespace L2
open PySem PySem.Spec PyProof.Rows
section
variable {X : Cx} {e : Expr} {es : List Expr} {te : TE} {tj : Str → TE} {pos : Pos}
def figI (i : Int) : Str := Str.ofString (toString i)
end
section
variable {X : Cx}
end
section
variable {X : Cx}
end
end L2
set_option Elab.async false
set_option linter.all false
set_option maxRecDepth 100000
set_option maxHeartbeats 1000000
namespace L2
open PySem PySem.Spec PyProof.Rows
section
variable {K : PySem.W.Frag} {σ : St} {H : Hp} {Q : VK} {cs : List Nat} {te : TE}
end
def fig (n : Nat) : Str := figI n
section
variable {K : PySem.W.Frag} {H : Hp} {Q : VK}
end
@[elab_as_elim] theorem absU {C : Hp → Prop} {H H2 : Hp} {p : Addr} {o : HO} (np : H p = none) (s : Same H H2) (k : ∀ H', Same H H' → H' p = some o → C H') : C (upd H2 p o) := k _ (same_upd np s) upd_same
def stS (n : Nat) (l : List Str) : Str := Builtin.Str.glued "\n" (("in " ++ fig n) :: l)
end L2
set_option Elab.async false
set_option linter.all false
set_option maxRecDepth 100000
set_option maxHeartbeats 1000000
namespace L2
open PySem PySem.Spec PyProof.Rows
end L2
set_option Elab.async false
set_option linter.all false
set_option maxRecDepth 100000
set_option maxHeartbeats 1000000
namespace L2
open PySem PySem.Spec PyProof.Rows PySem.W
def tkey (S : List Int) : List Key := S.map Sum.inl
def rDPT : V → V → V → Hp → (Hp → Prop) → Prop := fun x y v H R => ∃ a b S kvs, x = .ref a ∧ y = .ref b ∧ H a = some (.dT kvs) ∧ H b = some (.tup (S.map V.int)) ∧ kvs.length < sizeLine ∧ R (upd H a (.dT (putK kvs (tkey S) v)))
def sDPT (td ty tv : TE) : TS := fun D σ H => tv σ H fun v H1 => td σ H1 fun x H2 => ty σ H2 fun y H3 => rDPT x y v H3 fun H4 => D.nx σ H4
def rDIT (neg : Bool) : R2 := fun y x H Q => ∃ a b S kvs, x = .ref a ∧ y = .ref b ∧ H a = some (.dT kvs) ∧ H b = some (.tup (S.map V.int)) ∧ Q (.bl (if neg then !(valV kvs (tkey S)).isSome else (valV kvs (tkey S)).isSome)) H
def rDGT : R2 := fun x y H Q => ∃ a b S kvs, x = .ref a ∧ y = .ref b ∧ H a = some (.dT kvs) ∧ H b = some (.tup (S.map V.int)) ∧ ∃ v, valV kvs (tkey S) = some v ∧ Q v H
section
variable {X : Cx} {o i e value : Expr} {pos pos' tpos : Pos} {td ty tv : TE}
end
section
variable {σ : St} {H : Hp} {Q : VK} {D : Ends} {a b : Addr} {v : V} {R : Hp → Prop}
theorem w_sDPT {td ty tv : TE} : sDPT td ty tv D σ H = (tv σ H fun v H1 => td σ H1 fun x H2 => ty σ H2 fun y H3 => rDPT x y v H3 fun H4 => D.nx σ H4) := rfl
theorem w_dpT : rDPT (.ref a) (.ref b) v H R = ∃ S kvs, H a = some (.dT kvs) ∧ H b = some (.tup (S.map V.int)) ∧ kvs.length < sizeLine ∧ R (upd H a (.dT (putK kvs (tkey S) v))) :=
  propext ⟨fun ⟨a', b', S, kvs, e1, e2, q⟩ => by cases e1; cases e2; exact ⟨S, kvs, q⟩, fun ⟨S, kvs, q⟩ => ⟨a, b, S, kvs, rfl, rfl, q⟩⟩
theorem w_dIT {neg : Bool} : rDIT neg (.ref b) (.ref a) H Q = ∃ S kvs, H a = some (.dT kvs) ∧ H b = some (.tup (S.map V.int)) ∧ Q (.bl (if neg then !(valV kvs (tkey S)).isSome else (valV kvs (tkey S)).isSome)) H :=
  propext ⟨fun ⟨a', b', S, kvs, e1, e2, q⟩ => by cases e1; cases e2; exact ⟨S, kvs, q⟩, fun ⟨S, kvs, q⟩ => ⟨a, b, S, kvs, rfl, rfl, q⟩⟩
theorem w_dgT : rDGT (.ref a) (.ref b) H Q = ∃ S kvs, H a = some (.dT kvs) ∧ H b = some (.tup (S.map V.int)) ∧ ∃ v, valV kvs (tkey S) = some v ∧ Q v H :=
  propext ⟨fun ⟨a', b', S, kvs, e1, e2, q⟩ => by cases e1; cases e2; exact ⟨S, kvs, q⟩, fun ⟨S, kvs, q⟩ => ⟨a, b, S, kvs, rfl, rfl, q⟩⟩
theorem w_dnT : tDNewT σ H Q = ∀ p, H p = none → Q (.ref p) (upd H p (.dT [])) := rfl
end
end L2
set_option Elab.async false
set_option linter.all false
set_option maxRecDepth 100000
set_option maxHeartbeats 1000000
namespace L2
open PySem PySem.Spec PyProof.Rows PySem.W
def rEqE (K : PySem.W.Frag) : R2 := fun x y H Q => ∃ p q xs, x = .ref p ∧ y = .ref q ∧ SqL K H p xs ∧ SqL K H q [] ∧ Q (.bl (decide (xs.length = 0))) H
theorem op_eqE {X : Cx} {k : Nat} (hr : Room k X.A) : OpR X (compareOp .Eq) (rEqE X.K) := by
  intro pins s σ H x y v u Q I rx ry h
  obtain ⟨p, q, xs, rfl, rfl, hp, hq, qq⟩ := h
  cases rx
  cases ry
  have hu : X.A.units < cLine := by have := hr.units; omega
  cases xs with
  | nil =>
    have h1 := is_lst (xs := []) hp rfl
    have h2 := is_lst (xs := []) hq rfl
    have := (rcAt_D 50 _ _ (A := X.A) (by rw [dep_l]; decide) (by have := hr.units; omega) I h1 h2 rfl rfl).2 p rfl
    exact this X.prog X.w X.xe _ ⟨.bl _, H, I, rfl, qq⟩
  | cons x r =>
    obtain ⟨its, rv, pl, _⟩ := I.list hp
    obtain ⟨its', rv', pl', _⟩ := I.list hq
    have e1 : its.toArray.size = r.length + 1 := by rw [List.size_toArray, ← rv.length]; rfl
    have e2 : its'.toArray.size = 0 := by rw [List.size_toArray, ← rv'.length]; rfl
    have := SeqAt.RcAt.lists_lengths (A := X.A) pl.isList pl'.isList (by rw [bne_iff_ne]; omega) hu
    exact this X.prog X.w X.xe _ ⟨.bl _, H, I, rfl, qq⟩
theorem w_eqE {K : PySem.W.Frag} {p q : Addr} {H : Hp} {Q : VK} : rEqE K (.ref p) (.ref q) H Q = ∃ xs, SqL K H p xs ∧ SqL K H q [] ∧ Q (.bl (decide (xs.length = 0))) H :=
  propext ⟨fun ⟨p', q', xs, e1, e2, h⟩ => by cases e1; cases e2; exact ⟨xs, h⟩, fun ⟨xs, h⟩ => ⟨p, q, xs, rfl, rfl, h⟩⟩
end L2
set_option Elab.async false
set_option linter.all false
set_option maxRecDepth 100000
set_option maxHeartbeats 1000000
namespace L2
open PySem PySem.Spec PyProof.Rows PySem.W
end L2
set_option Elab.async false
set_option linter.all false
set_option maxRecDepth 100000
set_option maxHeartbeats 1000000
namespace L2
open PySem PySem.Spec PyProof.Rows PySem.W
end L2
set_option Elab.async false
set_option linter.all false
set_option maxRecDepth 100000
set_option maxHeartbeats 1000000
namespace L2
open PySem PySem.Spec PyProof.Rows PySem.W
end L2
set_option Elab.async false
set_option linter.all false
set_option maxRecDepth 100000
set_option maxHeartbeats 1000000
namespace L2
open PySem PySem.Spec PyProof.Rows PySem.W
theorem sg_mul {g s : Int} (h : g = 1 ∨ g = -1) (h' : s = 1 ∨ s = -1) : g * s = 1 ∨ g * s = -1 := by
  rcases h with e | e <;> rcases h' with e' | e' <;> rw [e, e'] <;> decide
section
variable {K : PySem.W.Frag} {σ : St} {H : Hp} {Q : VK} {cs : List Nat} {te : TE}
end
end L2
set_option Elab.async false
set_option linter.all false
set_option maxRecDepth 100000
set_option maxHeartbeats 1000000
namespace L2
open PySem PySem.Spec PyProof.Rows PySem.W
def rNeE (K : PySem.W.Frag) : R2 := fun x y H Q => ∃ p q xs, x = .ref p ∧ y = .ref q ∧ SqL K H p xs ∧ SqL K H q [] ∧ Q (.bl (decide (xs.length ≠ 0))) H
theorem w_neE {K : PySem.W.Frag} {p q : Addr} {H : Hp} {Q : VK} : rNeE K (.ref p) (.ref q) H Q = ∃ xs, SqL K H p xs ∧ SqL K H q [] ∧ Q (.bl (decide (xs.length ≠ 0))) H :=
  propext ⟨fun ⟨p', q', xs, e1, e2, h⟩ => by cases e1; cases e2; exact ⟨xs, h⟩, fun ⟨xs, h⟩ => ⟨p, q, xs, rfl, rfl, h⟩⟩
section
variable {K : PySem.W.Frag} {σ : St} {H : Hp} {Q : VK} {cs : List Nat} {tt : TT}
end
end L2
set_option Elab.async false
set_option linter.all false
set_option maxRecDepth 100000
set_option maxHeartbeats 1000000
namespace L2
open PySem PySem.Spec PyProof.Rows PySem.W
def tRevL (te : TE) (ts : TO) : TE := fun σ H Q => te σ H fun x H1 => ts σ H1 fun st H2 => st = some (-1) ∧ ∃ a xs, x = .ref a ∧ H2 a = some (.lst xs) ∧ ∀ p, H2 p = none → Q (.ref p) (upd H2 p (.lst xs.reverse))
theorem w_revL {te : TE} {ts : TO} {σ : St} {H : Hp} {Q : VK} : tRevL te ts σ H Q = (te σ H fun x H1 => ts σ H1 fun st H2 => st = some (-1) ∧ ∃ a xs, x = .ref a ∧ H2 a = some (.lst xs) ∧ ∀ p, H2 p = none → Q (.ref p) (upd H2 p (.lst xs.reverse))) := rfl
theorem w_dget1 {td ty : TE} {σ : St} {H : Hp} {Q : VK} : tDGet1 td ty σ H Q = (td σ H fun x H1 => ∃ a, x = .ref a ∧ IsD H1 a ∧ ty σ H1 fun y H2 => ∃ o, DGet H2 a y o ∧ Q (o.getD .non) H2) := rfl
end L2
set_option Elab.async false
set_option linter.all false
set_option maxRecDepth 100000
set_option maxHeartbeats 1000000
namespace L2
open PySem PySem.Spec PyProof.Rows PySem.W
theorem core_made {own : Int} {k : Nat} {g : Int} (h1 : 1 ≤ own) (h2 : own % 2 = 1) (hg : g = 1 ∨ g = -1) : coreN (own * 2 ^ k * g) = own ∧ own * 2 ^ k * g ≠ 0 := by
  have p2 : (0 : Int) < 2 ^ k := Int.pow_pos (by decide)
  have p : 0 < own * 2 ^ k := Int.mul_pos (by omega) p2
  have c : coreN (own * 2 ^ k) = own := core_is (k := k) (by omega) h2 (by omega)
  rcases hg with rfl | rfl
  · rw [Int.mul_one]
    exact ⟨c, by omega⟩
  · rw [Int.mul_neg, Int.mul_one, coreN_neg]
    exact ⟨c, by omega⟩
section
variable {K : PySem.W.Frag} {σ : St} {H : Hp} {Q : VK} {cs : List Nat} {te : TE}
theorem comp_flt {α : Type} {f : α → List V} {tt : TT} {v : Addr} {us : List V} {xs : List α} (pr : α → Bool) (hv : H v = some (.lst us)) (ht : HTs f H us xs) (hz : xs.length ≤ 1000)
    (hb : ∀ t x H' (R : Bool → Hp → Prop), x ∈ xs → H t = some (.tup (f x)) → Same H H' → R (pr x) H' → tt (some (.ref t) :: capV cs σ) H' R)
    (hd : ∀ acc ys H', H acc = none → Same H H' → H' acc = some (.lst ys) → HTs f H ys (xs.filter pr) → Q (.ref acc) H') :
    CompIt (Itl K v) 1 cs (gName 0) tt (tVar 0) σ H Q := by
  have ul := ht.len
  refine comp_any us.length (fun acc i ys H' => Same H H' ∧ H' acc = some (.lst ys) ∧ ys.length ≤ i ∧ HTs f H ys ((xs.take i).filter pr)) (le_size (by omega)) ?_ ?_ ?_ ?_ ?_ ?_
  · rintro acc i ys H' hi ⟨s, _⟩
    exact ⟨us, us[i], SqL.of (s _ _ hv), List.getElem?_eq_getElem hi⟩
  · rintro acc ys H' ⟨s, _⟩
    exact ⟨us, SqL.of (s _ _ hv), Nat.le_refl _⟩
  · intro acc ha
    exact ⟨same_new ha _, upd_same, Nat.le_refl _, hts_nil⟩
  · rintro acc i ys H' ⟨s, ha, hl, _⟩
    exact ⟨ha, hl⟩
  · rintro acc i ys H' ts x H2 N hn hi ⟨s, ha, hl, hy⟩ ⟨rfl, hx⟩ hts hN
    have hx := hx us (SqL.of (s _ _ hv))
    obtain ⟨t0, rfl⟩ : ∃ t0, ts = [t0] := List.length_eq_one_iff.mp hts
    have hiL : i < xs.length := by rw [← ul]; exact hi
    obtain ⟨t, hy1, hy2⟩ := ht.at_ i _ (List.getElem?_eq_getElem hiL)
    have hSi : xs[i]? = some xs[i] := List.getElem?_eq_getElem hiL
    generalize xs[i] = S at hy2 hSi
    rw [hx] at hy1
    cases hy1
    have hm := List.mem_of_getElem? hSi
    rw [w_gName]
    refine hb t S _ _ hm hy2 s ?_
    cases hp : pr S with
    | true =>
      rw [if_pos rfl]
      refine ⟨_, rfl, ha, hN _ [_] _ rfl ⟨same_upd hn s, upd_same, by rw [List.length_append]; exact Nat.succ_le_succ hl, ?_⟩⟩
      rw [List.take_succ, hSi, Option.toList_some, List.filter_append, List.filter_cons_of_pos hp, List.filter_nil]
      exact hy.snoc hy2
    | false =>
      rw [if_neg (by decide)]
      refine hN _ [_] _ rfl ⟨s, ha, Nat.le_succ_of_le hl, ?_⟩
      rw [List.take_succ, hSi, Option.toList_some, List.filter_append, List.filter_cons_of_neg (by rw [hp]; decide), List.filter_nil, List.append_nil]
      exact hy
  · rintro acc ys H' hn ⟨s, ha, hl, hy⟩
    rw [ul, List.take_length] at hy
    exact hd acc ys H' hn s ha hy
end
end L2
set_option Elab.async false
set_option linter.all false
set_option maxRecDepth 100000
set_option maxHeartbeats 1000000
namespace L2
open PySem PySem.Spec PyProof.Rows PySem.W
def mulR (c : Int) (fs : List Int) : List Int := fs.map fun x => c * x
def Lead (fs : List Int) : Prop := ∃ (i : Nat) (x : Int), fs[i]? = some x ∧ 0 < x ∧ ∀ j y, j < i → fs[j]? = some y → y = 0
structure Frm (row fs : List Int) (k : Nat) (g : Int) : Prop where
  sg : g = 1 ∨ g = -1
  eq : row = mulR (g * 2 ^ k) fs
  od : ∃ x ∈ fs, x % 2 = 1
  ld : Lead fs
theorem mulR_len (c : Int) (fs : List Int) : (mulR c fs).length = fs.length := List.length_map ..
theorem mulR_at {c : Int} {fs : List Int} {i : Nat} {x : Int} (h : fs[i]? = some x) : (mulR c fs)[i]? = some (c * x) := by
  unfold mulR
  rw [List.getElem?_map, h]
  rfl
theorem mulR_mul (c d : Int) (fs : List Int) : mulR c (mulR d fs) = mulR (c * d) fs := by
  unfold mulR
  rw [List.map_map]
  exact List.map_congr_left fun x _ => (Int.mul_assoc c d x).symm
theorem pow_ne (k : Nat) : (2 : Int) ^ k ≠ 0 := by
  have : (0 : Int) < 2 ^ k := Int.pow_pos (by decide)
  omega
theorem mulR_inj {c : Int} (hc : c ≠ 0) {fs gs : List Int} (h : mulR c fs = mulR c gs) : fs = gs := by
  have hl : fs.length = gs.length := by have := congrArg List.length h; rwa [mulR_len, mulR_len] at this
  refine List.ext_getElem? fun i => ?_
  cases e : fs[i]? with
  | none =>
    rw [List.getElem?_eq_none_iff] at e
    exact (List.getElem?_eq_none_iff.mpr (by omega)).symm
  | some x =>
    have hi := (List.getElem?_eq_some_iff.mp e).1
    have e2 : gs[i]? = some gs[i] := List.getElem?_eq_getElem (by omega)
    have h1 := mulR_at (c := c) e
    rw [h, mulR_at e2] at h1
    rw [e2, Int.eq_of_mul_eq_mul_left hc (Option.some.inj h1)]
theorem frm_shift_le {fs gs : List Int} {k j : Nat} {g s : Int} (hg : g = 1 ∨ g = -1) (hs : s = 1 ∨ s = -1) (h : mulR (g * 2 ^ k) fs = mulR (s * 2 ^ j) gs) (ho : ∃ x ∈ fs, x % 2 = 1) : j ≤ k := by
  refine Nat.not_lt.mp fun z => ?_
  obtain ⟨x, hx, ox⟩ := ho
  obtain ⟨i, hi⟩ := List.getElem?_of_mem hx
  have h1 := mulR_at (c := g * 2 ^ k) hi
  have hl : fs.length = gs.length := by have := congrArg List.length h; rwa [mulR_len, mulR_len] at this
  have hil := (List.getElem?_eq_some_iff.mp hi).1
  have e2 : gs[i]? = some gs[i] := List.getElem?_eq_getElem (by omega)
  rw [h, mulR_at e2] at h1
  have h2 := Option.some.inj h1
  generalize gs[i] = y at h2
  obtain ⟨m, rfl⟩ : ∃ m, j = k + 1 + m := ⟨j - k - 1, by omega⟩
  have e3 : s * 2 ^ (k + 1 + m) * y = 2 ^ k * (2 * (s * 2 ^ m * y)) := by
    rw [Int.pow_add, Int.pow_succ]
    simp only [Int.mul_assoc, Int.mul_left_comm, Int.mul_comm]
  have e4 : g * 2 ^ k * x = 2 ^ k * (g * x) := by rw [Int.mul_comm g, Int.mul_assoc]
  rw [e3, e4] at h2
  have h3 := Int.eq_of_mul_eq_mul_left (pow_ne k) h2
  rcases hg with rfl | rfl <;> omega
theorem frm_uniq {row fs gs : List Int} {k j : Nat} {g s : Int} (h : Frm row fs k g) (h' : Frm row gs j s) : fs = gs ∧ k = j ∧ g = s := by
  have e : mulR (g * 2 ^ k) fs = mulR (s * 2 ^ j) gs := h.eq.symm.trans h'.eq
  have l1 := frm_shift_le h.sg h'.sg e h.od
  have l2 := frm_shift_le h'.sg h.sg e.symm h'.od
  have kj : k = j := by omega
  subst kj
  have hl : fs.length = gs.length := by have := congrArg List.length e; rwa [mulR_len, mulR_len] at this
  have el : ∀ i x y, fs[i]? = some x → gs[i]? = some y → g * x = s * y := fun i x y hx hy => by
    have h1 := mulR_at (c := g * 2 ^ k) hx
    rw [e, mulR_at hy] at h1
    have h2 := Option.some.inj h1
    rw [Int.mul_comm s, Int.mul_comm g, Int.mul_assoc, Int.mul_assoc] at h2
    exact (Int.eq_of_mul_eq_mul_left (pow_ne k) h2).symm
  have gs' : g = s := by
    obtain ⟨i, x, hx, px, zx⟩ := h.ld
    obtain ⟨i', y, hy, py, zy⟩ := h'.ld
    have hi := (List.getElem?_eq_some_iff.mp hx).1
    have hi' := (List.getElem?_eq_some_iff.mp hy).1
    have ii : i = i' := by
      rcases Nat.lt_trichotomy i i' with z | z | z
      · have e2 : gs[i]? = some gs[i] := List.getElem?_eq_getElem (by omega)
        have := el i x _ hx e2
        rw [zy i _ z e2] at this
        rcases h.sg with r | r <;> rcases h'.sg with r' | r' <;> rw [r, r'] at this <;> omega
      · exact z
      · have e2 : fs[i']? = some fs[i'] := List.getElem?_eq_getElem (by omega)
        have := el i' _ y e2 hy
        rw [zx i' _ z e2] at this
        rcases h.sg with r | r <;> rcases h'.sg with r' | r' <;> rw [r, r'] at this <;> omega
    subst ii
    have := el i x y hx hy
    rcases h.sg with r | r <;> rcases h'.sg with r' | r' <;> rw [r, r'] at this ⊢ <;> omega
  refine ⟨?_, rfl, gs'⟩
  subst gs'
  refine mulR_inj ?_ e
  rcases h.sg with r | r <;> rw [r]
  · rw [Int.one_mul]; exact pow_ne k
  · rw [Int.neg_mul, Int.one_mul]
    have := pow_ne k
    omega
theorem sg_sq {g : Int} (h : g = 1 ∨ g = -1) : g * g = 1 := by rcases h with rfl | rfl <;> rfl
theorem frm_mul {row fs : List Int} {k j : Nat} {g s : Int} (h : Frm row fs k g) (hs : s = 1 ∨ s = -1) : Frm (mulR (s * 2 ^ j) row) fs (k + j) (s * g) := by
  refine ⟨sg_mul hs h.sg, ?_, h.od, h.ld⟩
  rw [h.eq, mulR_mul, Int.pow_add]
  congr 1
  simp only [Int.mul_assoc, Int.mul_left_comm, Int.mul_comm]
theorem core_split {n : Int} {k : Nat} (hn : n ≠ 0) (hk : (k : Int) ≤ shN n) : ∃ m : Nat, shN n = ((k + m : Nat) : Int) ∧ n / 2 ^ k = coreN n * 2 ^ m * sgN n ∧ 2 ^ k * (n / 2 ^ k) = n := by
  obtain ⟨_, _, k', e1, e2, _⟩ := core_props hn
  obtain ⟨m, rfl⟩ : ∃ m, k' = k + m := ⟨k' - k, by omega⟩
  have e3 : n = 2 ^ k * (coreN n * 2 ^ m * sgN n) := by
    rw [← Int.mul_assoc, ← Int.mul_assoc, Int.mul_comm (2 ^ k) (coreN n), Int.mul_assoc (coreN n), ← Int.pow_add, e2]
  have e4 : n / 2 ^ k = coreN n * 2 ^ m * sgN n := by
    have := Int.mul_ediv_cancel_left (coreN n * 2 ^ m * sgN n) (pow_ne k)
    rwa [← e3] at this
  exact ⟨m, e1, e4, by rw [e4]; exact e3.symm⟩
theorem frm_of {row : List Int} {k : Nat} {g : Int} (hmin : ∀ n ∈ row, n ≠ 0 → (k : Int) ≤ shN n) (hat : ∃ n ∈ row, n ≠ 0 ∧ shN n = k) (hg : ∃ (i : Nat) (n : Int), row[i]? = some n ∧ n ≠ 0 ∧ sgN n = g ∧ ∀ (j : Nat) y, j < i → row[j]? = some y → y = 0) : Frm row (row.map fun n => g * (n / 2 ^ k)) k g := by
  obtain ⟨i, n, hi, n0, sg, hz⟩ := hg
  have hs : g = 1 ∨ g = -1 := by
    obtain ⟨_, _, k', e1, e2, e3, _⟩ := core_props n0
    rw [← sg]
    exact e3
  refine ⟨hs, ?_, ?_, i, g * (n / 2 ^ k), by rw [List.getElem?_map, hi]; rfl, ?_, fun j y hj hy => ?_⟩
  · unfold mulR
    rw [List.map_map]
    refine (List.map_id row).symm.trans (List.map_congr_left fun x hx => ?_)
    show x = g * 2 ^ k * (g * (x / 2 ^ k))
    have e : 2 ^ k * (x / 2 ^ k) = x := by
      by_cases z : x = 0
      · rw [z]; simp
      · exact (core_split z (hmin x hx z)).choose_spec.2.2
    rw [Int.mul_comm g (2 ^ k), Int.mul_assoc, ← Int.mul_assoc g g, sg_sq hs, Int.one_mul, e]
  · obtain ⟨x, hx, x0, ex⟩ := hat
    obtain ⟨m, e1, e2, _⟩ := core_split x0 (by omega : (k : Int) ≤ shN x)
    have m0 : m = 0 := by omega
    subst m0
    obtain ⟨_, od, _, _, _, sx, _⟩ := core_props x0
    refine ⟨_, List.mem_map.mpr ⟨x, hx, rfl⟩, ?_⟩
    rw [e2, Int.pow_zero, Int.mul_one]
    rcases hs with r | r <;> rcases sx with r' | r' <;> rw [r, r'] <;> omega
  · obtain ⟨m, e1, e2, _⟩ := core_split n0 (hmin n (List.mem_of_getElem? hi) n0)
    rw [e2, sg, Int.mul_comm (coreN n * 2 ^ m) g, ← Int.mul_assoc, sg_sq hs, Int.one_mul]
    exact Int.mul_pos (core_props n0).1 (Int.pow_pos (by decide))
  · rw [List.getElem?_map] at hy
    obtain ⟨x, hx, rfl⟩ := Option.map_eq_some_iff.mp hy
    rw [hz j x hj hx]
    simp
def coT (n : Int) : List V := [.int (coreN n), .int (shN n), .int (sgN n)]
def spForm : Sp := fun vs H Q _ => ∃ (r : Addr) (row : List Int), vs = [.ref r] ∧ H r = some (.tup (row.map V.int)) ∧ row.length ≤ 100 ∧ (∀ x ∈ row, x.natAbs < 2 ^ 4000) ∧
  ((∀ x ∈ row, x = 0) → ∀ t H', Same H H' → H' t = some (.tup [.ref r, .int 0, .int 0]) → Q (.ref t) H') ∧
  ∀ t f fs (k : Nat) (g : Int) H', Same H H' → H' t = some (.tup [.ref f, .int k, .int g]) → H' f = some (.tup (fs.map V.int)) → Frm row fs k g → Q (.ref t) H'
section
variable {K : PySem.W.Frag} {σ : St} {H : Hp} {Q : VK} {cs : List Nat} {te : TE} {tt : TT}
theorem comp_tupF {row : List Int} {t : Addr} (pr : Int → Bool) (f : Int → List V) (ht : H t = some (.tup (row.map V.int))) (hz : row.length ≤ 1000)
    (hb1 : ∀ n H' (R : Bool → Hp → Prop), n ∈ row → Same H H' → R (pr n) H' → tt (some (.int n) :: capV cs σ) H' R)
    (hb2 : ∀ n H' (R : VK), n ∈ row → Same H H' → (∀ p H5, Same H' H5 → H5 p = some (.tup (f n)) → R (.ref p) H5) → te (some (.int n) :: capV cs σ) H' R)
    (hd : ∀ acc ws H', H acc = none → Same H H' → H' acc = some (.lst ws) → HTs f H' ws (row.filter pr) → Q (.ref acc) H') :
    CompIt (Itt K t) 1 cs (gName 0) tt te σ H Q := by
  have lm : (row.map V.int).length = row.length := List.length_map ..
  refine comp_any row.length (fun acc i ws H' => Same H H' ∧ H' acc = some (.lst ws) ∧ ws.length ≤ i ∧ HTs f H' ws ((row.take i).filter pr)) (le_size hz) ?_ ?_ ?_ ?_ ?_ ?_
  · rintro acc i ws H' hi ⟨s, _⟩
    exact ⟨_, (row.map V.int)[i]'(by rw [lm]; exact hi), SqT.of (s _ _ ht), List.getElem?_eq_getElem _⟩
  · rintro acc ws H' ⟨s, _⟩
    exact ⟨_, SqT.of (s _ _ ht), by rw [lm]; exact Nat.le_refl _⟩
  · intro acc ha
    exact ⟨same_new ha _, upd_same, Nat.le_refl _, hts_nil⟩
  · rintro acc i ws H' ⟨s, ha, hl, _⟩
    exact ⟨ha, hl⟩
  · rintro acc i ws H' ts x H2 N hn hi ⟨s, ha, hl, hy⟩ ⟨rfl, hx⟩ hts hN
    have hx := hx _ (SqT.of (s _ _ ht))
    obtain ⟨t0, rfl⟩ : ∃ t0, ts = [t0] := List.length_eq_one_iff.mp hts
    obtain ⟨n, hSi, rfl⟩ := map_at hx
    have hm := List.mem_of_getElem? hSi
    rw [w_gName]
    refine hb1 n _ _ hm s ?_
    cases hp : pr n with
    | true =>
      rw [if_pos rfl]
      refine hb2 n _ _ hm s fun p H5 s5 h5 => ?_
      have ha5 := s5 _ _ ha
      refine ⟨ha5, hN _ [_] _ rfl ⟨same_upd hn (s.trans s5), upd_same, by rw [List.length_append]; exact Nat.succ_le_succ hl, ?_⟩⟩
      rw [List.take_succ, hSi, Option.toList_some, List.filter_append, List.filter_cons_of_pos hp, List.filter_nil]
      exact ((hy.same s5).snoc h5).chgL ha5 (Chg.upd _)
    | false =>
      rw [if_neg (by decide)]
      refine hN _ [_] _ rfl ⟨s, ha, Nat.le_succ_of_le hl, ?_⟩
      rw [List.take_succ, hSi, Option.toList_some, List.filter_append, List.filter_cons_of_neg (by rw [hp]; decide), List.filter_nil, List.append_nil]
      exact hy
  · rintro acc ws H' hn ⟨s, ha, hl, hy⟩
    rw [List.take_length] at hy
    exact hd acc ws H' hn s ha hy
theorem comp_hi {α : Type} {f : α → List V} {v : Addr} {us : List V} {xs : List α} (h : α → Int) (hv : H v = some (.lst us)) (ht : HTs f H us xs) (hz : xs.length ≤ 1000)
    (hb : ∀ t x H' (R : VK), x ∈ xs → H t = some (.tup (f x)) → Same H H' → R (.int (h x)) H' → te (some (.ref t) :: capV cs σ) H' R)
    (hd : ∀ acc H', H acc = none → Same H H' → H' acc = some (.lst ((xs.map h).map V.int)) → Q (.ref acc) H') :
    CompIt (Itl K v) 1 cs (gName 0) tYes te σ H Q := by
  have ul := ht.len
  refine comp_any us.length (fun acc i ys H' => Same H H' ∧ H' acc = some (.lst ys) ∧ ys.length ≤ i ∧ ys = ((xs.take i).map h).map V.int) (le_size (by omega)) ?_ ?_ ?_ ?_ ?_ ?_
  · rintro acc i ys H' hi ⟨s, _⟩
    exact ⟨us, us[i], SqL.of (s _ _ hv), List.getElem?_eq_getElem hi⟩
  · rintro acc ys H' ⟨s, _⟩
    exact ⟨us, SqL.of (s _ _ hv), Nat.le_refl _⟩
  · intro acc ha
    exact ⟨same_new ha _, upd_same, Nat.le_refl _, rfl⟩
  · rintro acc i ys H' ⟨s, ha, hl, _⟩
    exact ⟨ha, hl⟩
  · rintro acc i ys H' ts x H2 N hn hi ⟨s, ha, hl, rfl⟩ ⟨rfl, hx⟩ hts hN
    have hx := hx us (SqL.of (s _ _ hv))
    obtain ⟨t0, rfl⟩ : ∃ t0, ts = [t0] := List.length_eq_one_iff.mp hts
    have hiL : i < xs.length := by rw [← ul]; exact hi
    obtain ⟨t, hy1, hy2⟩ := ht.at_ i _ (List.getElem?_eq_getElem hiL)
    have hSi : xs[i]? = some xs[i] := List.getElem?_eq_getElem hiL
    generalize xs[i] = S at hy2 hSi
    rw [hx] at hy1
    cases hy1
    rw [w_gName, w_yes, if_pos rfl]
    refine hb t S _ _ (List.mem_of_getElem? hSi) hy2 s ?_
    refine ⟨ha, hN _ [_] _ rfl ⟨same_upd hn s, upd_same, by rw [List.length_append]; exact Nat.succ_le_succ hl, ?_⟩⟩
    rw [List.take_succ, hSi, Option.toList_some, List.map_append, List.map_append]
    rfl
  · rintro acc ys H' hn ⟨s, ha, hl, rfl⟩
    rw [ul, List.take_length] at ha
    exact hd acc H' hn s ha
end
def fmV (g : Int) (k : Nat) : V → Option V
  | .int n => some (.int (g * (n / 2 ^ k)))
  | _ => none
theorem fmV_map (g : Int) (k : Nat) : ∀ ns : List Int, (ns.map V.int).filterMap (fmV g k) = (ns.map fun n => g * (n / 2 ^ k)).map V.int
  | [] => rfl
  | n :: r => by
    rw [List.map_cons, List.map_cons, List.map_cons, List.filterMap_cons, fmV_map g k r]
    rfl
theorem first_nz {row : List Int} {n : Int} {r : List Int} (h : (row.filter fun x => decide (x ≠ 0)) = n :: r) : ∃ i : Nat, row[i]? = some n ∧ n ≠ 0 ∧ ∀ (j : Nat) y, j < i → row[j]? = some y → y = 0 := by
  induction row with
  | nil => cases h
  | cons x xs ih =>
    by_cases z : x = 0
    · rw [List.filter_cons_of_neg (by simp [z])] at h
      obtain ⟨i, a, b, c⟩ := ih h
      refine ⟨i + 1, by rw [List.getElem?_cons_succ]; exact a, b, fun j y hj hy => ?_⟩
      cases j with
      | zero => simp at hy; omega
      | succ j => rw [List.getElem?_cons_succ] at hy; exact c j y (by omega) hy
    · rw [List.filter_cons_of_pos (by simp [z])] at h
      cases h
      exact ⟨0, rfl, z, fun j y hj => absurd hj (Nat.not_lt_zero _)⟩
theorem shV_div {n : Int} {k : Nat} (h : 2 ^ k * (n / 2 ^ k) = n) : shV n (-(k : Int)) = .int (n / 2 ^ k) := by
  unfold shV
  have e : (- -(k : Int)).toNat = k := by omega
  by_cases z : k = 0
  · subst z
    rw [if_pos (by simp)]
    simp
  · rw [if_neg (by omega), e, if_pos (by rw [Int.mul_comm]; exact h)]
theorem div_row {row : List Int} {k : Nat} (hmin : ∀ n ∈ row, n ≠ 0 → (k : Int) ≤ shN n) : ∀ n ∈ row, 2 ^ k * (n / 2 ^ k) = n := fun n hn => by
  by_cases z : n = 0
  · rw [z]; simp
  · exact (core_split z (hmin n hn z)).choose_spec.2.2
theorem sh_le {n : Int} (h : n ≠ 0) (hb : n.natAbs < 2 ^ 4000) : ∃ k : Nat, shN n = k ∧ k ≤ 4000 := by
  obtain ⟨_, _, k, e1, _, _, _, hk, _⟩ := core_props h
  refine ⟨k, e1, Nat.not_lt.mp fun z => ?_⟩
  have : 2 ^ 4000 ≤ 2 ^ k := Nat.pow_le_pow_right (by decide) (by omega)
  omega
end L2
set_option Elab.async false
set_option linter.all false
set_option maxRecDepth 100000
set_option maxHeartbeats 1000000
namespace L2
open PySem PySem.Spec PyProof.Rows PySem.W
def fmI (H : Hp) (v : V) (row : List Int) : Prop := ∃ t, v = .ref t ∧ (((∀ x ∈ row, x = 0) ∧ ∃ r, H t = some (.tup [.ref r, .int 0, .int 0])) ∨ ∃ (f : Addr) (fs : List Int) (k : Nat) (g : Int), H t = some (.tup [.ref f, .int k, .int g]) ∧ H f = some (.tup (fs.map V.int)) ∧ Frm row fs k g)
def FmL (H : Hp) (us : List V) (rows : List (List Int)) : Prop := us.length = rows.length ∧ ∀ (i : Nat) u row, us[i]? = some u → rows[i]? = some row → fmI H u row
end L2
set_option Elab.async false
set_option linter.all false
set_option maxRecDepth 100000
set_option maxHeartbeats 1000000
namespace L2
open PySem PySem.Spec PyProof.Rows PySem.W
end L2
set_option Elab.async false
set_option linter.all false
set_option maxRecDepth 100000
set_option maxHeartbeats 1000000
namespace L2
open PySem PySem.Spec PyProof.Rows
section
variable {X : Cx} {pins : List (Addr × Obj)} {σ : St} {H : Hp} {s : Shared}
end
structure LS (H H' : Hp) : Prop where
  st : ∀ b o, H b = some o → (∀ xs, o ≠ .lst xs) → H' b = some o
  ls : ∀ b xs, H b = some (.lst xs) → ∃ ys, H' b = some (.lst ys)
theorem Same.ls {H H' : Hp} (s : Same H H') : LS H H' := ⟨fun b o h _ => s _ _ h, fun b xs h => ⟨xs, s _ _ h⟩⟩
theorem Chg.ls {H H' : Hp} {p : Addr} {xs ys : List V} (c : Chg p H H') (h : H p = some (.lst xs)) (h' : H' p = some (.lst ys)) : LS H H' :=
  ⟨fun b o e n => c _ _ (fun z => n xs (by rw [z, h] at e; exact (Option.some.inj e).symm)) e, fun b zs e => by
    by_cases z : b = p
    · rw [z]; exact ⟨_, h'⟩
    · exact ⟨_, c _ _ z e⟩⟩
end L2
set_option Elab.async false
set_option linter.all false
set_option maxRecDepth 100000
set_option maxHeartbeats 1000000
namespace L2
open PySem PySem.Spec PyProof.Rows PySem.W
section
variable {n : Nat} {ds : List Wd} {gs : List Go} {bs : List Bool}
end
section
variable {n : Nat} {ds : List Wd} {gs : List Go} {bs : List Bool}
end
section
variable {n i : Nat} {R : List (List Int)} {kvs : List (List Key × V)} {es : List Wd}
end
end L2
set_option Elab.async false
set_option linter.all false
set_option maxRecDepth 100000
set_option maxHeartbeats 1000000
namespace L2
open PySem PySem.Spec PyProof.Rows PySem.W
section
variable {K : PySem.W.Frag} {σ : St} {H : Hp} {Q : VK} {cs : List Nat} {te : TE}
theorem comp_rel {α : Type} {f : α → List V} {Rl : Hp → V → α → Prop} {v : Addr} {us : List V} {xs : List α} (mono : ∀ H H' u x, Rl H u x → LS H H' → Rl H' u x) (hv : H v = some (.lst us)) (ht : HTs f H us xs) (hz : xs.length ≤ 1000)
    (hb : ∀ (i : Nat) t x H' (R : VK), xs[i]? = some x → H' t = some (.tup (f x)) → Same H H' → (∀ u H5, Same H' H5 → Rl H5 u x → R u H5) → te (some (.ref t) :: capV cs σ) H' R)
    (hd : ∀ acc ws H', H acc = none → Same H H' → H' acc = some (.lst ws) → ws.length = xs.length → (∀ (i : Nat) u x, ws[i]? = some u → xs[i]? = some x → Rl H' u x) → Q (.ref acc) H') :
    CompIt (Itl K v) 1 cs (gName 0) tYes te σ H Q := by
  have ul := ht.len
  refine comp_any us.length (fun acc i ys H' => Same H H' ∧ H' acc = some (.lst ys) ∧ ys.length = i ∧ ∀ (j : Nat) u x, ys[j]? = some u → xs[j]? = some x → Rl H' u x) (le_size (by omega)) ?_ ?_ ?_ ?_ ?_ ?_
  · rintro acc i ys H' hi ⟨s, _⟩
    exact ⟨us, us[i], SqL.of (s _ _ hv), List.getElem?_eq_getElem hi⟩
  · rintro acc ys H' ⟨s, _⟩
    exact ⟨us, SqL.of (s _ _ hv), Nat.le_refl _⟩
  · intro acc ha
    exact ⟨same_new ha _, upd_same, rfl, fun j u x h => by cases h⟩
  · rintro acc i ys H' ⟨s, ha, hl, _⟩
    exact ⟨ha, Nat.le_of_eq hl⟩
  · rintro acc i ys H' ts x H2 N hn hi ⟨s, ha, hl, hy⟩ ⟨rfl, hx⟩ hts hN
    have hx := hx us (SqL.of (s _ _ hv))
    obtain ⟨t0, rfl⟩ : ∃ t0, ts = [t0] := List.length_eq_one_iff.mp hts
    have hiL : i < xs.length := by rw [← ul]; exact hi
    obtain ⟨t, hy1, hy2⟩ := ht.at_ i _ (List.getElem?_eq_getElem hiL)
    have hSi : xs[i]? = some xs[i] := List.getElem?_eq_getElem hiL
    generalize xs[i] = S at hy2 hSi
    rw [hx] at hy1
    cases hy1
    rw [w_gName, w_yes, if_pos rfl]
    refine hb i t S _ _ hSi (s _ _ hy2) s fun u H5 s5 h5 => ?_
    have ha5 := s5 _ _ ha
    have L : LS H5 (upd H5 acc (.lst (ys ++ [u]))) := (Chg.upd _).ls ha5 upd_same
    refine ⟨ha5, hN _ [_] _ rfl ⟨same_upd hn (s.trans s5), upd_same, by rw [List.length_append, hl]; rfl, fun j u' x' hu hx' => ?_⟩⟩
    rcases get_snoc hu with ⟨jl, z⟩ | ⟨jl, rfl⟩
    · exact mono _ _ _ _ (mono _ _ _ _ (hy j u' x' z hx') s5.ls) L
    · rw [show j = i by omega, hSi] at hx'
      cases hx'
      exact mono _ _ _ _ h5 L
  · rintro acc ys H' hn ⟨s, ha, hl, hy⟩
    exact hd acc ys H' hn s ha (by omega) hy
end
theorem fmI.ls {H H' : Hp} {v : V} {row : List Int} (h : fmI H v row) (l : LS H H') : fmI H' v row := by
  have nt : ∀ xs ys : List V, HO.tup xs ≠ .lst ys := fun _ _ z => by cases z
  obtain ⟨t, e, ⟨z, r, h1⟩ | ⟨f, fs, k, g, h1, h2, F⟩⟩ := h
  · exact ⟨t, e, .inl ⟨z, r, l.st _ _ h1 (nt _)⟩⟩
  · exact ⟨t, e, .inr ⟨f, fs, k, g, l.st _ _ h1 (nt _), l.st _ _ h2 (nt _), F⟩⟩
def spNums4 (K : PySem.W.Frag) : Sp := fun vs H Q _ => ∃ (w dl gl : Addr) (ins : Nat) (us : List V) (ds : List Wd) (os : List V) (gs : List Go), vs = [.ref w] ∧ WbK K H w dl gl ins us ds os gs ∧ FW4 ins ds gs ∧
  ∀ r ys H', H r = none → Same H H' → H' r = some (.lst ys) → HTs iT H' ys (rowsW ins ds) → Q (.ref r) H'
def spUsedK (K : PySem.W.Frag) : Sp := fun vs H Q _ => ∃ (w dl gl : Addr) (ins : Nat) (us : List V) (ds : List Wd) (os : List V) (gs : List Go), vs = [.ref w] ∧ WbK K H w dl gl ins us ds os gs ∧ WebOk ins ds gs ∧
  ∀ r bs H', H r = none → Same H H' → H' r = some (.lst (bs.map V.bl)) → Us ins ds gs bs → Q (.ref r) H'
end L2
set_option Elab.async false
set_option linter.all false
set_option maxRecDepth 100000
set_option maxHeartbeats 1000000
namespace L2
open PySem PySem.Spec PyProof.Rows PySem.W
theorem frm_ex {row : List Int} (h : ¬ ∀ x ∈ row, x = 0) : ∃ fs k g, Frm row fs k g := by
  have ex : ∃ k : Nat, ∃ n ∈ row, n ≠ 0 ∧ shN n = k := by
    obtain ⟨x, hx⟩ := Classical.not_forall.mp h
    obtain ⟨h1, h2⟩ := Classical.not_imp.mp hx
    obtain ⟨_, _, k, e1, _⟩ := core_props h2
    exact ⟨k, x, h1, h2, e1⟩
  obtain ⟨k0, hk0⟩ := ex
  have mn : ∃ k : Nat, (∃ n ∈ row, n ≠ 0 ∧ shN n = k) ∧ ∀ j : Nat, j < k → ¬ ∃ n ∈ row, n ≠ 0 ∧ shN n = j := by
    induction k0 using Nat.strongRecOn with
    | ind k ih =>
      by_cases z : ∃ j : Nat, j < k ∧ ∃ n ∈ row, n ≠ 0 ∧ shN n = j
      · obtain ⟨j, h1, h2⟩ := z
        exact ih j h1 h2
      · exact ⟨k, hk0, fun j hj y => z ⟨j, hj, y⟩⟩
  obtain ⟨k, hat, hlt⟩ := mn
  have hmin : ∀ n ∈ row, n ≠ 0 → (k : Int) ≤ shN n := fun n hn n0 => by
    obtain ⟨_, _, j, e1, _⟩ := core_props n0
    rcases Nat.lt_or_ge j k with z | z
    · exact (hlt j z ⟨n, hn, n0, e1⟩).elim
    · rw [e1]; omega
  have nf : (row.filter fun x => decide (x ≠ 0)) ≠ [] := fun z => by
    obtain ⟨n, hn, n0, _⟩ := hat
    have : n ∈ row.filter fun x => decide (x ≠ 0) := List.mem_filter.mpr ⟨hn, decide_eq_true n0⟩
    rw [z] at this
    cases this
  obtain ⟨n, rest, ef⟩ := List.exists_cons_of_ne_nil nf
  obtain ⟨i0, a, b, c⟩ := first_nz ef
  exact ⟨_, k, sgN n, frm_of hmin hat ⟨i0, n, a, b, rfl, c⟩⟩
section
variable {n i : Nat} {R : List (List Int)} {kvs : List (List Key × V)} {es : List Wd}
end
end L2
set_option Elab.async false
set_option linter.all false
set_option maxRecDepth 100000
set_option maxHeartbeats 1000000
namespace L2
open PySem PySem.Spec PyProof.Rows PySem.W
def spShY (K : PySem.W.Frag) : Sp := fun vs H Q _ => ∃ (p a l : Addr) (ns : List Int) (c : Int) (xs : List Int), vs = [.ref p, .ref l] ∧ LPen H p a c ∧ Scr K H a ns ∧ ns.length ≤ 63 ∧ c ≤ 100000000 ∧ H l = some (.lst (xs.map V.int)) ∧ xs.length ≤ 100 ∧ l ≠ p ∧
  ∀ (r : Int) H', Sh r xs → LPen H' p a (c + 10) → Scr K H' a ns → Chg p H H' → Q (.int r) H'
end L2
set_option Elab.async false
set_option linter.all false
set_option maxRecDepth 100000
set_option maxHeartbeats 1000000
namespace L2
open PySem PySem.Spec PyProof.Rows PySem.W
section
variable {n i : Nat} {ds : List Wd} {gs : List Go} {ms : List Nat}
end
def LikeR (one other : List Int) : Prop := ∃ (i : Nat) (x y : Int), one[i]? = some x ∧ x ≠ 0 ∧ other[i]? = some y ∧ y ≠ 0 ∧ coreN x = coreN y ∧ ∀ (j : Nat) u v, one[j]? = some u → other[j]? = some v → u * y = v * x
theorem like_half {one other : List Int} {x y : Int} {i k : Nat} {c : Int} (hl : one.length = other.length) (hi : one[i]? = some x) (x0 : x ≠ 0) (hc : c = 1 ∨ c = -1) (e : y = c * 2 ^ k * x) (h : ∀ (j : Nat) u v, one[j]? = some u → other[j]? = some v → u * y = v * x) : other = mulR (c * 2 ^ k) one := by
  refine List.ext_getElem? fun j => ?_
  cases eo : one[j]? with
  | none =>
    rw [List.getElem?_eq_none_iff] at eo
    rw [List.getElem?_eq_none_iff.mpr (by omega), List.getElem?_eq_none_iff.mpr (by rw [mulR_len]; omega)]
  | some u =>
    have jl := (List.getElem?_eq_some_iff.mp eo).1
    have ev := List.getElem?_eq_getElem (show j < other.length by omega)
    rw [ev, mulR_at eo]
    have := h j u _ eo ev
    rw [e] at this
    have h2 : x * (other[j]'(by omega)) = x * (c * 2 ^ k * u) := by
      rw [Int.mul_comm x, ← this]
      simp only [Int.mul_assoc, Int.mul_left_comm, Int.mul_comm]
    rw [Int.eq_of_mul_eq_mul_left x0 h2]
theorem like_form {one other fs gs : List Int} {k j : Nat} {g s : Int} (hl : one.length = other.length) (h : LikeR one other) (F : Frm one fs k g) (G : Frm other gs j s) : fs = gs := by
  obtain ⟨i, x, y, hi, x0, hy, y0, hc, hh⟩ := h
  obtain ⟨_, _, a, _, e2, sx, _⟩ := core_props x0
  obtain ⟨_, _, b, _, f2, sy, _⟩ := core_props y0
  have sq := sg_sq sx
  have sq2 := sg_sq sy
  rcases Nat.le_total a b with z | z
  · have e : y = sgN y * sgN x * 2 ^ (b - a) * x := by
      have p : (2 : Int) ^ b = 2 ^ (b - a) * 2 ^ a := by rw [← Int.pow_add]; congr 1; omega
      calc y = coreN y * 2 ^ b * sgN y := f2.symm
        _ = coreN x * (2 ^ (b - a) * 2 ^ a) * sgN y := by rw [hc, p]
        _ = sgN y * (sgN x * sgN x) * 2 ^ (b - a) * (coreN x * 2 ^ a) := by rw [sq]; simp only [Int.mul_assoc, Int.mul_left_comm, Int.mul_comm, Int.one_mul]
        _ = sgN y * sgN x * 2 ^ (b - a) * (coreN x * 2 ^ a * sgN x) := by simp only [Int.mul_assoc, Int.mul_left_comm, Int.mul_comm]
        _ = sgN y * sgN x * 2 ^ (b - a) * x := by rw [e2]
    have eo := like_half hl hi x0 (sg_mul sy sx) e hh
    have F2 := frm_mul (j := b - a) F (sg_mul sy sx)
    rw [← eo] at F2
    exact (frm_uniq F2 G).1
  · have e : x = sgN x * sgN y * 2 ^ (a - b) * y := by
      have p : (2 : Int) ^ a = 2 ^ (a - b) * 2 ^ b := by rw [← Int.pow_add]; congr 1; omega
      calc x = coreN x * 2 ^ a * sgN x := e2.symm
        _ = coreN y * (2 ^ (a - b) * 2 ^ b) * sgN x := by rw [hc, p]
        _ = sgN x * (sgN y * sgN y) * 2 ^ (a - b) * (coreN y * 2 ^ b) := by rw [sq2]; simp only [Int.mul_assoc, Int.mul_left_comm, Int.mul_comm, Int.one_mul]
        _ = sgN x * sgN y * 2 ^ (a - b) * (coreN y * 2 ^ b * sgN y) := by simp only [Int.mul_assoc, Int.mul_left_comm, Int.mul_comm]
        _ = sgN x * sgN y * 2 ^ (a - b) * y := by rw [f2]
    have eo := like_half (c := sgN x * sgN y) (k := a - b) hl.symm hy y0 (sg_mul sx sy) e (fun j u v hu hv => (hh j v u hv hu).symm)
    have F2 := frm_mul (j := a - b) G (sg_mul sx sy)
    rw [← eo] at F2
    exact (frm_uniq F F2).1
def spOdd29 : Sp := fun vs H Q _ => ∃ x : Int, vs = [.int x] ∧ x ≠ 0 ∧ x.natAbs < 2 ^ 9000 ∧ Q (.int (coreN x)) H
def plV (pr : Nat → Bool) : V → Option V
  | .int k => if pr k.toNat then some (.int k) else none
  | _ => none
theorem plV_map (pr : Nat → Bool) (n : Nat) : (rngV 0 n).filterMap (plV pr) = ((List.range n).filter pr).map fun (i : Nat) => V.int (i : Int) := by
  unfold rngV
  induction n with
  | zero => rfl
  | succ n ih =>
    rw [List.range_succ, List.map_append, List.filterMap_append, ih, List.filter_append, List.map_append]
    congr 1
    show ([V.int (0 + (n : Int))].filterMap (plV pr)) = _
    rw [Int.zero_add]
    cases h : pr n with
    | true => rw [List.filter_cons_of_pos h]; unfold plV; simp [h]
    | false => rw [List.filter_cons_of_neg (by rw [h]; decide)]; unfold plV; simp [h]
theorem abs_core {x : Int} (h : x ≠ 0) : ∃ k : Nat, (if x < 0 then -x else x) = coreN x * 2 ^ k ∧ Builtin.bitAnd (if x < 0 then -x else x) (0 - if x < 0 then -x else x) = 2 ^ k ∧ 2 ^ k ≤ x.natAbs := by
  obtain ⟨m, k, e1, e2⟩ := core_fact h
  have ea : (if x < 0 then -x else x) = absI x := rfl
  have ec : coreN x = 2 * (m : Int) + 1 := by
    have := core_three x
    rw [e2] at this
    have := congrArg (fun l => l.headD 0) this
    simpa using this.symm
  have e3 : absI x = 2 ^ k * (2 * (m : Int) + 1) := by rw [e1, Int.mul_comm]
  refine ⟨k, by rw [ea, e3, ec, Int.mul_comm], by rw [ea, Int.zero_sub, e3]; exact kbt_low k _, ?_⟩
  have en : (x.natAbs : Int) = absI x := by unfold absI; split <;> omega
  have : ((2 ^ k : Nat) : Int) ≤ (x.natAbs : Int) := by
    rw [en, e3, Int.natCast_pow]
    have pk := pow_pos2 k
    have : (2 : Int) ^ k * 1 ≤ 2 ^ k * (2 * (m : Int) + 1) := Int.mul_le_mul_of_nonneg_left (by omega) (Int.le_of_lt pk)
    rw [Int.mul_one] at this
    exact this
  exact Int.ofNat_le.mp this
end L2
set_option Elab.async false
set_option linter.all false
set_option maxRecDepth 100000
set_option maxHeartbeats 1000000
namespace L2
open PySem PySem.Spec PyProof.Rows PySem.W
end L2
set_option Elab.async false
set_option linter.all false
set_option maxRecDepth 100000
set_option maxHeartbeats 1000000
namespace L2
open PySem PySem.Spec PyProof.Rows PySem.W
section
variable {K : PySem.W.Frag} {σ : St} {H : Hp} {Q : VK} {cs : List Nat} {te : TE}
end
def nzV : V → Option V
  | .int i => if i ≠ 0 then some (.int i) else none
  | _ => none
theorem nz_map : ∀ row : List Int, (row.map V.int).filterMap nzV = (row.filter fun x => decide (x ≠ 0)).map V.int
  | [] => rfl
  | x :: r => by
    have ih := nz_map r
    rw [List.map_cons, List.filterMap_cons]
    by_cases z : x = 0
    · rw [List.filter_cons_of_neg (by simp [z]), ← ih]
      unfold nzV
      simp only [z, ne_eq, not_true_eq_false, if_false]
    · rw [List.filter_cons_of_pos (by simp [z]), List.map_cons, ← ih]
      unfold nzV
      simp only [ne_eq, z, not_false_eq_true, if_true]
end L2
set_option Elab.async false
set_option linter.all false
set_option maxRecDepth 100000
set_option maxHeartbeats 1000000
namespace L2
open PySem PySem.Spec PyProof.Rows
section
variable {ins m : Nat} {s1 s2 : List Wd} {t1 t2 : List Go}
end
section
variable {ins : Nat} {ds : List Wd} {gs : List Go} {μ : List Int} {B : Int}
end
end L2
set_option Elab.async false
set_option linter.all false
set_option maxRecDepth 100000
set_option maxHeartbeats 1000000
namespace L2
open PySem PySem.Spec PyProof.Rows
def advM (m : Nat) (p : SetTable.Probe) : SetTable.Probe :=
  if p.more > 0 then { p with j := p.j + 1, more := p.more - 1 } else
  { p with j := (p.i * 5 + 1 + p.perturb / 32) % (m + 1), more := SetTable.runEnd m ((p.i * 5 + 1 + p.perturb / 32) % (m + 1)) - (p.i * 5 + 1 + p.perturb / 32) % (m + 1), i := (p.i * 5 + 1 + p.perturb / 32) % (m + 1), perturb := p.perturb / 32 }
def pn (m : Nat) : Nat → SetTable.Probe → SetTable.Probe
  | 0, p => p
  | n + 1, p => pn m n (advM m p)
theorem pn_add (m : Nat) : ∀ (a b : Nat) (p : SetTable.Probe), pn m (a + b) p = pn m b (pn m a p)
  | 0, b, p => by rw [Nat.zero_add]; rfl
  | a + 1, b, p => by
    rw [show a + 1 + b = (a + b) + 1 by omega]
    show pn m (a + b) (advM m p) = pn m b (pn m a (advM m p))
    exact pn_add m a b _
theorem pn_succ (m n : Nat) (p : SetTable.Probe) : pn m (n + 1) p = advM m (pn m n p) := pn_add m n 1 p
theorem run_le (m i : Nat) : SetTable.runEnd m i - i ≤ 9 := by unfold SetTable.runEnd; split <;> omega
theorem run_ge (m i : Nat) : i ≤ SetTable.runEnd m i := by unfold SetTable.runEnd; split <;> omega
theorem pn_run (m : Nat) : ∀ (k : Nat) (p : SetTable.Probe), k ≤ p.more → pn m k p = { p with j := p.j + k, more := p.more - k }
  | 0, p, _ => rfl
  | k + 1, p, h => by
    rw [pn_succ, pn_run m k p (by omega)]
    unfold advM
    rw [if_pos (by show p.more - k > 0; omega)]
    show SetTable.Probe.mk _ _ _ _ _ = SetTable.Probe.mk _ _ _ _ _
    congr 1
def lpP (m : Nat) (p : SetTable.Probe) : SetTable.Probe :=
  { p with j := (p.i * 5 + 1 + p.perturb / 32) % (m + 1), more := SetTable.runEnd m ((p.i * 5 + 1 + p.perturb / 32) % (m + 1)) - (p.i * 5 + 1 + p.perturb / 32) % (m + 1), i := (p.i * 5 + 1 + p.perturb / 32) % (m + 1), perturb := p.perturb / 32 }
theorem pn_leap (m : Nat) (p : SetTable.Probe) : pn m (p.more + 1) p = lpP m p := by
  rw [pn_succ, pn_run m p.more p (Nat.le_refl _)]
  unfold advM
  rw [if_neg (by show ¬ (p.more - p.more > 0); omega)]
  rfl
def lps (m : Nat) : Nat → SetTable.Probe → SetTable.Probe
  | 0, p => p
  | n + 1, p => lpP m (lps m n p)
theorem lps_more (m : Nat) : ∀ (n : Nat) (p : SetTable.Probe), p.more ≤ 9 → (lps m n p).more ≤ 9
  | 0, p, h => h
  | n + 1, p, _ => run_le _ _
theorem lps_pn (m : Nat) : ∀ (n : Nat) (p : SetTable.Probe), p.more ≤ 9 → ∃ N, N ≤ 10 * n ∧ pn m N p = lps m n p
  | 0, p, _ => ⟨0, Nat.le_refl _, rfl⟩
  | n + 1, p, h => by
    obtain ⟨N, h1, h2⟩ := lps_pn m n p h
    have h3 := lps_more m n p h
    exact ⟨N + ((lps m n p).more + 1), by omega, by rw [pn_add, h2, pn_leap]; rfl⟩
theorem lps_pert (m : Nat) (p : SetTable.Probe) : ∀ n, (lps m n p).perturb = p.perturb / 32 ^ n
  | 0 => by rw [Nat.pow_zero, Nat.div_one]; rfl
  | n + 1 => by
    show (lps m n p).perturb / 32 = _
    rw [lps_pert m p n, Nat.pow_succ, Nat.div_div_eq_div_mul]
def fM (m x : Nat) : Nat := (x * 5 + 1) % (m + 1)
def itf (m : Nat) : Nat → Nat → Nat
  | 0, x => x
  | n + 1, x => fM m (itf m n x)
theorem itf_add (m a : Nat) : ∀ (b x : Nat), itf m (a + b) x = itf m b (itf m a x)
  | 0, x => rfl
  | b + 1, x => by
    show fM m (itf m (a + b) x) = fM m (itf m b (itf m a x))
    rw [itf_add m a b x]
theorem lps_zero (m : Nat) (p : SetTable.Probe) (h0 : p.perturb = 0) (hj : p.j = p.i) : ∀ n, (lps m n p).perturb = 0 ∧ (lps m n p).i = itf m n p.i ∧ (lps m n p).j = itf m n p.i
  | 0 => ⟨h0, rfl, hj⟩
  | n + 1 => by
    obtain ⟨a, b, _⟩ := lps_zero m p h0 hj n
    have e : ((lps m n p).i * 5 + 1 + (lps m n p).perturb / 32) % (m + 1) = fM m (itf m n p.i) := by rw [a, b]; rfl
    refine ⟨?_, e, e⟩
    show (lps m n p).perturb / 32 = 0
    rw [a]
def MskOk (m : Nat) : Prop := m = 7 ∨ m = 31 ∨ m = 127
def orbM (m : Nat) : Nat → Nat → List Nat
  | 0, _ => []
  | n + 1, x => x :: orbM m n (fM m x)
theorem orb_mem (m : Nat) : ∀ (n x y : Nat), y ∈ orbM m n x → ∃ k, k < n ∧ itf m k x = y
  | 0, x, y, h => by cases h
  | n + 1, x, y, h => by
    rcases List.mem_cons.mp h with rfl | h
    · exact ⟨0, by omega, rfl⟩
    · obtain ⟨k, hk, e⟩ := orb_mem m n _ y h
      refine ⟨k + 1, by omega, ?_⟩
      rw [show k + 1 = 1 + k by omega, itf_add]
      exact e
def covB (m : Nat) : Bool := ((List.range (m + 1)).all fun j => (orbM m (m + 1) 0).contains j) && (itf m (m + 1) 0 == 0)
theorem cov_ok {m : Nat} (h : MskOk m) : covB m = true := by
  rcases h with rfl | rfl | rfl <;> decide +kernel
theorem cov_all {m i j : Nat} (h : MskOk m) (hi : i ≤ m) (hj : j ≤ m) : ∃ k, k ≤ m ∧ itf m k i = j := by
  have c := cov_ok h
  unfold covB at c
  rw [Bool.and_eq_true, List.all_eq_true] at c
  have z : itf m (m + 1) 0 = 0 := by simpa using c.2
  have g : ∀ y, y ≤ m → ∃ k, k < m + 1 ∧ itf m k 0 = y := fun y hy => orb_mem m _ 0 y (by
    have := c.1 y (List.mem_range.mpr (by omega))
    simpa using this)
  obtain ⟨a, ha, ea⟩ := g i hi
  obtain ⟨b, hb, eb⟩ := g j hj
  by_cases y : a ≤ b
  · refine ⟨b - a, by omega, ?_⟩
    rw [← ea, ← itf_add, show a + (b - a) = b by omega, eb]
  · refine ⟨m + 1 + b - a, by omega, ?_⟩
    rw [← ea, ← itf_add, show a + (m + 1 + b - a) = (m + 1) + b by omega, itf_add, z, eb]
theorem lps_all {m j : Nat} (h : MskOk m) (hj : j ≤ m) (p : SetTable.Probe) (hp : p.perturb < 2 ^ 64) : ∃ n, n ≤ 13 + m ∧ (lps m n p).j = j := by
  have e0 : (lps m 13 p).perturb = 0 := by
    rw [lps_pert]
    exact Nat.div_eq_of_lt (Nat.lt_trans hp (by decide))
  have ej : (lps m 13 p).j = (lps m 13 p).i := rfl
  have ei : (lps m 13 p).i ≤ m := by
    have : (lps m 13 p).i < m + 1 := Nat.mod_lt _ (by omega)
    omega
  obtain ⟨k, hk, e⟩ := cov_all h ei hj
  refine ⟨13 + k, by omega, ?_⟩
  have add : ∀ (a b : Nat), lps m (a + b) p = lps m b (lps m a p) := fun a b => by
    induction b with
    | zero => rfl
    | succ b ih => show lpP m (lps m (a + b) p) = lpP m (lps m b (lps m a p)); rw [ih]
  rw [add, (lps_zero m _ e0 ej k).2.2, e]
theorem pn_all {m j : Nat} (h : MskOk m) (hj : j ≤ m) (p : SetTable.Probe) (hm : p.more ≤ 9) (hp : p.perturb < 2 ^ 64) : ∃ N, N < 10 * SetTable.turns m ∧ (pn m N p).j = j := by
  obtain ⟨n, hn, e⟩ := lps_all h hj p hp
  obtain ⟨N, h1, h2⟩ := lps_pn m n p hm
  refine ⟨N, by unfold SetTable.turns; omega, by rw [h2, e]⟩
theorem pn_keep (m : Nat) (p : SetTable.Probe) (hm : p.more ≤ 9) : ∀ n, (pn m n p).more ≤ 9 ∧ (pn m n p).perturb ≤ p.perturb ∧ (pn m n p).dummy = p.dummy
  | 0 => ⟨hm, Nat.le_refl _, rfl⟩
  | n + 1 => by
    obtain ⟨a, b, c⟩ := pn_keep m p hm n
    rw [pn_succ]
    unfold advM
    split
    · exact ⟨by show (pn m n p).more - 1 ≤ 9; omega, b, c⟩
    · exact ⟨run_le _ _, Nat.le_trans (Nat.div_le_self _ _) b, c⟩
theorem TabZ.live {led : Bool} {t : SetTable} (h : TabZ led t) {j i : Nat} (e : t.place[i]? = some j) : t.slot j = .live i := by
  obtain ⟨b1, b2, b3⟩ := below_ok h.rise j
  obtain ⟨hi, rfl⟩ := Array.getElem?_eq_some_iff.mp e
  have eb : SetTable.below t.place t.place[i] = i := by
    rcases Nat.lt_trichotomy (SetTable.below t.place t.place[i]) i with z | z | z
    · have hb : SetTable.below t.place t.place[i] < t.place.size := by omega
      have q1 := b3 _ hb (Nat.le_refl _)
      have q2 := h.rise _ _ hb hi z
      omega
    · exact z
    · have := b2 i hi z
      omega
  unfold SetTable.slot
  dsimp only
  rw [eb, e]
  simp
theorem TabZ.none_ {led : Bool} {t : SetTable} (h : TabZ led t) {j : Nat} (e : j ∉ t.place.toList) : t.slot j = .empty := by
  unfold SetTable.slot
  dsimp only
  have : t.place[SetTable.below t.place j]? ≠ some j := fun z => by
    obtain ⟨hi, z⟩ := Array.getElem?_eq_some_iff.mp z
    exact e (by rw [← z]; exact Array.getElem_mem_toList hi)
  rw [if_neg (by simpa using this), h.dum, has_nil]
  rfl
theorem TabZ.slot_iff {led : Bool} {t : SetTable} (h : TabZ led t) {j i : Nat} : t.slot j = .live i ↔ t.place[i]? = some j := by
  constructor
  · intro e
    by_cases z : j ∈ t.place.toList
    · obtain ⟨i', hi', e'⟩ := List.mem_iff_getElem.mp z
      have e2 : t.place[i']? = some j := by
        rw [← Array.getElem?_toList, List.getElem?_eq_getElem hi', e']
      have := h.live e2
      rw [e] at this
      cases this
      exact e2
    · rw [h.none_ z] at e; cases e
  · exact h.live
theorem TabZ.empty_iff {led : Bool} {t : SetTable} (h : TabZ led t) {j : Nat} : t.slot j = .empty ↔ j ∉ t.place.toList := by
  constructor
  · intro e z
    obtain ⟨i', hi', e'⟩ := List.mem_iff_getElem.mp z
    rw [h.live (i := i') (by rw [← Array.getElem?_toList, List.getElem?_eq_getElem hi', e'])] at e
    cases e
  · exact h.none_
theorem TabZ.cases_ {led : Bool} {t : SetTable} (h : TabZ led t) (j : Nat) : t.slot j = .empty ∨ ∃ i, t.slot j = .live i := by
  cases e : t.slot j with
  | empty => exact .inl rfl
  | live i => exact .inr ⟨i, rfl⟩
  | dummy =>
    exfalso
    by_cases z : j ∈ t.place.toList
    · obtain ⟨i', hi', e'⟩ := List.mem_iff_getElem.mp z
      rw [h.live (i := i') (by rw [← Array.getElem?_toList, List.getElem?_eq_getElem hi', e'])] at e
      cases e
    · rw [h.none_ z] at e; cases e
def stP (m : Nat) (x : Int) : SetTable.Probe := { j := SetTable.bits x % (m + 1), more := SetTable.runEnd m (SetTable.bits x % (m + 1)) - SetTable.bits x % (m + 1), i := SetTable.bits x % (m + 1), perturb := SetTable.bits x, dummy := none }
theorem bits_lt (x : Int) : SetTable.bits x < 2 ^ 64 := by
  unfold SetTable.bits
  have := Int.emod_lt_of_pos x (show (0 : Int) < 2 ^ 64 by decide)
  have := Int.emod_nonneg x (show (2 : Int) ^ 64 ≠ 0 by decide)
  omega
def sl (m : Nat) (x : Int) (n : Nat) : Nat := (pn m n (stP m x)).j
structure TbW (led : Bool) (t : SetTable) (es : Array (Int × Value)) : Prop where
  z : TabZ led t
  msk : MskOk t.mask
  len : t.place.size = es.size
  way : ∀ (i : Nat) (e : Int × Value), es[i]? = some e → ∃ n, t.place[i]? = some (sl t.mask e.1 n) ∧ ∀ k, k < n → sl t.mask e.1 k ∈ t.place.toList
structure TbR (led : Bool) (t : SetTable) (es : Array (Int × Value)) : Prop extends TbW led t es where
  few : t.place.size * 5 < t.mask * 3
section
variable {led : Bool} {t : SetTable} {es : Array (Int × Value)}
theorem TbR.room (T : TbR led t es) : ∃ j, j ≤ t.mask ∧ t.slot j = .empty := by
  apply Classical.byContradiction
  intro c
  have all : ∀ j ∈ List.range (t.mask + 1), j ∈ t.place.toList := fun j hj => by
    have hj := List.mem_range.mp hj
    apply Classical.byContradiction
    intro z
    exact c ⟨j, by omega, T.z.none_ z⟩
  have := List.Nodup.length_le_of_subset List.nodup_range all
  rw [List.length_range, Array.length_toList] at this
  have := T.few
  omega
theorem TbR.free (T : TbR led t es) (x : Int) : ∃ N, N < 10 * SetTable.turns t.mask ∧ t.slot (sl t.mask x N) = .empty := by
  obtain ⟨j, hj, e⟩ := T.room
  obtain ⟨N, h1, h2⟩ := pn_all T.msk hj (stP t.mask x) (run_le _ _) (bits_lt x)
  exact ⟨N, h1, by unfold sl; rw [h2, e]⟩
theorem go_run (f : Nat → Int) (x : Int) : ∀ (n fuel : Nat) (p : SetTable.Probe), n < fuel → (∀ k, k < n → ∃ i, t.slot (pn t.mask k p).j = .live i ∧ (f i == x) = false) →
    (t.slot (pn t.mask n p).j = .empty → SetTable.probe.go t f x fuel p = some (.empty (pn t.mask n p).j (pn t.mask n p).dummy)) ∧ ∀ i, t.slot (pn t.mask n p).j = .live i → (f i == x) = true → SetTable.probe.go t f x fuel p = some (.candidate (pn t.mask n p).j i (pn t.mask (n + 1) p))
  | 0, fuel + 1, p, _, _ => by
    constructor
    · intro e
      have e : t.slot p.j = .empty := e
      unfold SetTable.probe.go
      rw [e]
      rfl
    · intro i e hi
      have e : t.slot p.j = .live i := e
      unfold SetTable.probe.go
      rw [e]
      dsimp only
      rw [if_pos hi]
      rfl
  | n + 1, fuel + 1, p, hn, hk => by
    obtain ⟨i0, e0, f0⟩ := hk 0 (by omega)
    have e0 : t.slot p.j = .live i0 := e0
    obtain ⟨a, b⟩ := go_run f x n fuel (advM t.mask p) (by omega) (fun k hk' => hk (k + 1) (by omega))
    have un : SetTable.probe.go t f x (fuel + 1) p = SetTable.probe.go t f x fuel (advM t.mask p) := by
      rw [SetTable.probe.go]
      rw [e0]
      dsimp only
      rw [f0]
      rfl
    rw [un]
    exact ⟨a, b⟩
theorem first_from {q : Nat → Prop} (N : Nat) (hN : q N) : ∀ (d a : Nat), a + d = N → ∃ n, a ≤ n ∧ n ≤ N ∧ q n ∧ ∀ b, a ≤ b → b < n → ¬ q b
  | 0, a, h => ⟨N, by omega, Nat.le_refl _, hN, fun b h1 h2 => by omega⟩
  | d + 1, a, h => by
    by_cases z : q a
    · exact ⟨a, Nat.le_refl _, by omega, z, fun b h1 h2 => by omega⟩
    · obtain ⟨n, h1, h2, h3, h4⟩ := first_from N hN d (a + 1) (by omega)
      refine ⟨n, by omega, h2, h3, fun b hb1 hb2 => ?_⟩
      by_cases y : b = a
      · rw [y]; exact z
      · exact h4 b (by omega) hb2
theorem met_next (Z : TabZ led t) (f : Nat → Int) (x : Int) {N a : Nat} (hN : N < 10 * SetTable.turns t.mask) (e : t.slot (sl t.mask x N) = .empty) (ha : a ≤ N) :
    ∃ n, a ≤ n ∧ n ≤ N ∧ (∀ b, a ≤ b → b < n → ∃ i, t.slot (sl t.mask x b) = .live i ∧ f i ≠ x) ∧ ((t.slot (sl t.mask x n) = .empty ∧ t.probe f x (pn t.mask a (stP t.mask x)) = some (.empty (sl t.mask x n) none)) ∨ ∃ i, t.slot (sl t.mask x n) = .live i ∧ f i = x ∧ t.probe f x (pn t.mask a (stP t.mask x)) = some (.candidate (sl t.mask x n) i (pn t.mask (n + 1) (stP t.mask x)))) := by
  obtain ⟨n, h1, h2, h3, h4⟩ := first_from (q := fun n => t.slot (sl t.mask x n) = .empty ∨ ∃ i, t.slot (sl t.mask x n) = .live i ∧ f i = x) N (.inl e) (N - a) a (by omega)
  have bef : ∀ b, a ≤ b → b < n → ∃ i, t.slot (sl t.mask x b) = .live i ∧ f i ≠ x := fun b hb1 hb2 => by
    have := h4 b hb1 hb2
    rcases Z.cases_ (sl t.mask x b) with y | ⟨i, y⟩
    · exact absurd (.inl y) this
    · exact ⟨i, y, fun c => this (.inr ⟨i, y, c⟩)⟩
  have sh : ∀ k, pn t.mask k (pn t.mask a (stP t.mask x)) = pn t.mask (a + k) (stP t.mask x) := fun k => (pn_add _ _ _ _).symm
  obtain ⟨g1, g2⟩ := go_run (t := t) f x (n - a) (10 * SetTable.turns t.mask) (pn t.mask a (stP t.mask x)) (by omega) (fun k hk => by
    obtain ⟨i, e1, e2⟩ := bef (a + k) (by omega) (by omega)
    rw [sh]
    exact ⟨i, e1, beq_eq_false_iff_ne.mpr e2⟩)
  rw [sh, show a + (n - a) = n by omega] at g1
  rw [sh, sh, show a + (n - a) = n by omega, show a + (n - a + 1) = n + 1 by omega] at g2
  refine ⟨n, h1, h2, bef, ?_⟩
  rcases h3 with y | ⟨i, y, c⟩
  · refine .inl ⟨y, ?_⟩
    have := g1 y
    rw [(pn_keep t.mask (stP t.mask x) (run_le _ _) n).2.2] at this
    exact this
  · exact .inr ⟨i, y, c, g2 i y (beq_iff_eq.mpr c)⟩
theorem insAt_mem {xs : Array Nat} {q : Nat} {x y : Nat} (hq : q ≤ xs.size) : y ∈ (SetTable.insertAt xs q x).toList ↔ y ∈ xs.toList ∨ y = x := by
  unfold SetTable.insertAt
  simp only [Array.toList_append, Array.toList_push, Array.toList_extract, List.mem_append, List.mem_singleton]
  have : xs.toList = xs.toList.take q ++ xs.toList.drop q := (List.take_append_drop _ _).symm
  have e1 : y ∈ xs.toList ↔ y ∈ xs.toList.take q ∨ y ∈ xs.toList.drop q := by
    constructor
    · intro h; rw [this] at h; exact List.mem_append.mp h
    · intro h; rw [this]; exact List.mem_append.mpr h
  rw [e1]
  simp only [List.extract_eq_drop_take, Nat.sub_zero, List.drop_zero]
  rw [List.take_of_length_le (l := xs.toList.drop q) (by rw [List.length_drop, Array.length_toList]; exact Nat.le_refl _)]
  constructor
  · rintro ((h | h) | h)
    · exact .inl (.inl h)
    · exact .inr h
    · exact .inl (.inr h)
  · rintro ((h | h) | h)
    · exact .inl (.inl h)
    · exact .inr h
    · exact .inl (.inr h)
theorem insAt_size {α : Type} {xs : Array α} {q : Nat} {x : α} (hq : q ≤ xs.size) : (SetTable.insertAt xs q x).size = xs.size + 1 := by
  unfold SetTable.insertAt
  simp only [Array.size_append, Array.size_push, Array.size_extract]
  omega
theorem TbR.put (T : TbR led t es) {x : Int} (v : Value) {n : Nat} (he : t.slot (sl t.mask x n) = .empty) (hk : ∀ k, k < n → sl t.mask x k ∈ t.place.toList) :
    TbW led (t.put (sl t.mask x n)).1 (SetTable.insertAt es (t.put (sl t.mask x n)).2 (x, v)) ∧ (t.put (sl t.mask x n)).1.mask = t.mask ∧ (t.put (sl t.mask x n)).1.plain = t.plain ∧ (t.put (sl t.mask x n)).1.moves = t.moves ∧ (t.put (sl t.mask x n)).2 ≤ es.size := by
  have nin := T.z.empty_iff.mp he
  have bl := (below_ok T.z.rise (sl t.mask x n)).1
  have hne : t.place[SetTable.below t.place (sl t.mask x n)]? ≠ some (sl t.mask x n) := fun z => by
    obtain ⟨hi, z⟩ := Array.getElem?_eq_some_iff.mp z
    exact nin (by rw [← z]; exact Array.getElem_mem_toList hi)
  refine ⟨⟨⟨rise_ins T.z.rise hne, ?_, T.z.led_⟩, T.msk, ?_, fun i e hi => ?_⟩, rfl, rfl, rfl, by rw [← T.len]; exact bl⟩
  · show (if SetTable.has t.dummies _ = true then _ else t.dummies) = #[]
    rw [T.z.dum, has_nil]
    rfl
  · show (SetTable.insertAt t.place _ _).size = (SetTable.insertAt es _ _).size
    rw [insAt_size bl, insAt_size (by rw [← T.len]; exact bl), T.len]
  · show ∃ m, (SetTable.insertAt t.place (SetTable.below t.place (sl t.mask x n)) (sl t.mask x n))[i]? = some (sl t.mask e.1 m) ∧ ∀ k, k < m → sl t.mask e.1 k ∈ (SetTable.insertAt t.place (SetTable.below t.place (sl t.mask x n)) (sl t.mask x n)).toList
    have hi : (SetTable.insertAt es (SetTable.below t.place (sl t.mask x n)) (x, v))[i]? = some e := hi
    rw [insAt_get _ _ (by rw [← T.len]; exact bl)] at hi
    rw [insAt_get _ _ bl]
    generalize SetTable.below t.place (sl t.mask x n) = q at bl hi ⊢
    have up : ∀ y, y ∈ t.place.toList → y ∈ (SetTable.insertAt t.place q (sl t.mask x n)).toList := fun y hy => (insAt_mem bl).mpr (.inl hy)
    by_cases c1 : i < q
    · rw [if_pos c1] at hi ⊢
      obtain ⟨m, h1, h2⟩ := T.way i e hi
      exact ⟨m, h1, fun k hk => up _ (h2 k hk)⟩
    · rw [if_neg c1] at hi ⊢
      by_cases c2 : i = q
      · rw [if_pos c2] at hi ⊢
        cases hi
        exact ⟨n, rfl, fun k hk' => up _ (hk k hk')⟩
      · rw [if_neg c2] at hi ⊢
        obtain ⟨m, h1, h2⟩ := T.way (i - 1) e hi
        exact ⟨m, h1, fun k hk => up _ (h2 k hk)⟩
end
def FreeA (owner : Array (Option Nat)) (j : Nat) : Prop := owner.getD j (some 0) = none
theorem lps_shift (m : Nat) : ∀ (n : Nat) (p : SetTable.Probe), lps m (n + 1) p = lps m n (lpP m p)
  | 0, p => rfl
  | n + 1, p => by show lpP m (lps m (n + 1) p) = lpP m (lps m n (lpP m p)); rw [lps_shift m n p]
theorem free_run (m : Nat) (owner : Array (Option Nat)) : ∀ (fuel : Nat) (p : SetTable.Probe), p.j = p.i → p.more = SetTable.runEnd m p.i - p.i → (∃ n, n < fuel ∧ FreeA owner (lps m n p).j) →
    ∃ N, SetTable.layClean.free m owner fuel p.i p.perturb = some (pn m N p).j ∧ FreeA owner (pn m N p).j ∧ ∀ k, k < N → ¬ FreeA owner (pn m k p).j
  | 0, p, _, _, h => by obtain ⟨n, hn, _⟩ := h; omega
  | fuel + 1, p, hj, hm, h => by
    have rg := run_ge m p.i
    unfold SetTable.layClean.free
    cases hf : (List.range (SetTable.runEnd m p.i + 1 - p.i)).find? (fun k => (owner.getD (p.i + k) (some 0)).isNone) with
    | some k =>
      obtain ⟨f1, f2⟩ := List.find?_range_eq_some.mp hf
      have f3 := List.mem_range.mp f2.1
      refine ⟨k, ?_, ?_, fun k' hk' => ?_⟩
      · dsimp only
        rw [pn_run m k p (by omega), hj]
      · rw [pn_run m k p (by omega)]
        show FreeA owner (p.j + k)
        rw [hj]
        exact Option.isNone_iff_eq_none.mp f1
      · rw [pn_run m k' p (by omega)]
        show ¬ FreeA owner (p.j + k')
        rw [hj]
        intro c
        have := f2.2 k' hk'
        unfold FreeA at c
        rw [c] at this
        simp at this
    | none =>
      have f1 : ∀ k, k ≤ p.more → ¬ FreeA owner (p.i + k) := fun k hk c => by
        have := List.find?_eq_none.mp hf k (List.mem_range.mpr (by omega))
        unfold FreeA at c
        rw [c] at this
        simp at this
      dsimp only
      obtain ⟨n, hn, hfr⟩ := h
      obtain ⟨N, g1, g2, g3⟩ := free_run m owner fuel (lpP m p) rfl rfl (by
        rcases n with _ | n
        · exact absurd hfr (by
            show ¬ FreeA owner p.j
            rw [hj]
            exact f1 0 (by omega))
        · exact ⟨n, by omega, by rw [← lps_shift]; exact hfr⟩)
      have sh : ∀ k, pn m (p.more + 1 + k) p = pn m k (lpP m p) := fun k => by rw [pn_add, pn_leap]
      refine ⟨p.more + 1 + N, ?_, ?_, fun k hk => ?_⟩
      · rw [sh]
        exact g1
      · rw [sh]
        exact g2
      · by_cases c : k ≤ p.more
        · rw [pn_run m k p c]
          show ¬ FreeA owner (p.j + k)
          rw [hj]
          exact f1 k c
        · have e := sh (k - (p.more + 1))
          rw [show p.more + 1 + (k - (p.more + 1)) = k by omega] at e
          rw [e]
          exact g3 _ (by omega)
theorem pn_le {m : Nat} : ∀ (n : Nat) (p : SetTable.Probe), p.j + p.more ≤ m → (pn m n p).j + (pn m n p).more ≤ m
  | 0, p, h => h
  | n + 1, p, h => by
    have ih := pn_le n p h
    rw [pn_succ]
    unfold advM
    split
    · show (pn m n p).j + 1 + ((pn m n p).more - 1) ≤ m
      omega
    · have lt : ((pn m n p).i * 5 + 1 + (pn m n p).perturb / 32) % (m + 1) < m + 1 := Nat.mod_lt _ (by omega)
      show ((pn m n p).i * 5 + 1 + (pn m n p).perturb / 32) % (m + 1) + (SetTable.runEnd m (((pn m n p).i * 5 + 1 + (pn m n p).perturb / 32) % (m + 1)) - ((pn m n p).i * 5 + 1 + (pn m n p).perturb / 32) % (m + 1)) ≤ m
      generalize ((pn m n p).i * 5 + 1 + (pn m n p).perturb / 32) % (m + 1) = q at lt ⊢
      unfold SetTable.runEnd
      split <;> omega
theorem sl_le (m : Nat) (x : Int) (n : Nat) : sl m x n ≤ m := by
  have lt : SetTable.bits x % (m + 1) < m + 1 := Nat.mod_lt _ (by omega)
  have := pn_le (m := m) n (stP m x) (by
    show SetTable.bits x % (m + 1) + (SetTable.runEnd m (SetTable.bits x % (m + 1)) - SetTable.bits x % (m + 1)) ≤ m
    generalize SetTable.bits x % (m + 1) = q at lt ⊢
    unfold SetTable.runEnd
    split <;> omega)
  unfold sl
  omega
structure OwR (m : Nat) (owner : Array (Option Nat)) (hs : List Int) : Prop where
  sz : owner.size = m + 1
  inj : ∀ (j j' i : Nat), owner[j]? = some (some i) → owner[j']? = some (some i) → j = j'
  lt : ∀ (j i : Nat), owner[j]? = some (some i) → i < hs.length
  way : ∀ (i : Nat) (x : Int), hs[i]? = some x → ∃ n, owner[sl m x n]? = some (some i) ∧ ∀ k, k < n → ∃ i', owner[sl m x k]? = some (some i')
theorem OwR.room {m : Nat} {owner : Array (Option Nat)} {hs : List Int} (O : OwR m owner hs) (hl : hs.length ≤ m) : ∃ j, j ≤ m ∧ owner[j]? = some none := by
  apply Classical.byContradiction
  intro c
  have all : ∀ j, j ≤ m → ∃ i, owner[j]? = some (some i) := fun j hj => by
    have e := Array.getElem?_eq_getElem (xs := owner) (i := j) (by rw [O.sz]; omega)
    cases h : owner[j]'(by rw [O.sz]; omega) with
    | none => rw [h] at e; exact absurd ⟨j, hj, e⟩ c
    | some i => rw [h] at e; exact ⟨i, e⟩
  have val : ∀ (j i : Nat), owner[j]? = some (some i) → (owner[j]?.getD none).getD 0 = i := fun j i h => by rw [h]; rfl
  have nd : ((List.range (m + 1)).map fun j => (owner[j]?.getD none).getD 0).Nodup := by
    unfold List.Nodup
    rw [List.pairwise_map]
    refine List.Pairwise.imp_of_mem ?_ (List.nodup_range (n := m + 1))
    intro a b ha hb ne e
    obtain ⟨ia, ea⟩ := all a (by have := List.mem_range.mp ha; omega)
    obtain ⟨ib, eb⟩ := all b (by have := List.mem_range.mp hb; omega)
    rw [val a ia ea, val b ib eb] at e
    subst e
    exact ne (O.inj a b _ ea eb)
  have sub := List.Nodup.length_le_of_subset nd (l₂ := List.range hs.length) (fun y hy => by
    obtain ⟨j, hj, rfl⟩ := List.mem_map.mp hy
    obtain ⟨i, ei⟩ := all j (by have := List.mem_range.mp hj; omega)
    rw [val j i ei]
    exact List.mem_range.mpr (O.lt j i ei))
  rw [List.length_map, List.length_range, List.length_range] at sub
  omega
theorem freeA_iff {owner : Array (Option Nat)} {j : Nat} : FreeA owner j ↔ owner[j]? = some none := by
  unfold FreeA
  rw [Array.getD_eq_getD_getElem?]
  cases h : owner[j]? with
  | none => simp
  | some o => simp
theorem OwR.step {m : Nat} {owner : Array (Option Nat)} {hs : List Int} (M : MskOk m) (O : OwR m owner hs) (hl : hs.length ≤ m) (x : Int) :
    ∃ j, SetTable.layClean.free m owner (SetTable.turns m) (SetTable.bits x % (m + 1)) (SetTable.bits x) = some j ∧ OwR m (owner.setIfInBounds j (some hs.length)) (hs ++ [x]) := by
  obtain ⟨j0, h0, e0⟩ := O.room hl
  obtain ⟨n, hn, en⟩ := lps_all M h0 (stP m x) (bits_lt x)
  obtain ⟨N, g1, g2, g3⟩ := free_run m owner (SetTable.turns m) (stP m x) rfl rfl ⟨n, by unfold SetTable.turns; omega, by rw [en]; exact freeA_iff.mpr e0⟩
  refine ⟨sl m x N, g1, ?_⟩
  have fr : owner[sl m x N]? = some none := freeA_iff.mp g2
  have jl := sl_le m x N
  have get : ∀ (j : Nat), (owner.setIfInBounds (sl m x N) (some hs.length))[j]? = if sl m x N = j then some (some hs.length) else owner[j]? := fun j => by
    rw [Array.getElem?_setIfInBounds]
    split
    · rw [if_pos (by rw [O.sz]; omega)]
    · rfl
  have old : ∀ (j i : Nat), owner[j]? = some (some i) → (owner.setIfInBounds (sl m x N) (some hs.length))[j]? = some (some i) := fun j i h => by
    rw [get, if_neg (fun c => by rw [← c, fr] at h; cases h)]
    exact h
  have inv : ∀ (j i : Nat), (owner.setIfInBounds (sl m x N) (some hs.length))[j]? = some (some i) → (j = sl m x N ∧ i = hs.length) ∨ owner[j]? = some (some i) := fun j i h => by
    rw [get] at h
    by_cases c : sl m x N = j
    · rw [if_pos c] at h
      cases h
      exact .inl ⟨c.symm, rfl⟩
    · rw [if_neg c] at h
      exact .inr h
  refine ⟨by rw [Array.size_setIfInBounds]; exact O.sz, fun j j' i h h' => ?_, fun j i h => ?_, fun i y hy => ?_⟩
  · rcases inv j i h with ⟨a, b⟩ | a <;> rcases inv j' i h' with ⟨a', b'⟩ | a'
    · rw [a, a']
    · have := O.lt j' i a'; omega
    · have := O.lt j i a; omega
    · exact O.inj j j' i a a'
  · rw [List.length_append, List.length_singleton]
    rcases inv j i h with ⟨_, b⟩ | a
    · omega
    · have := O.lt j i a; omega
  · rcases get_snoc hy with ⟨hi, z⟩ | ⟨hi, z⟩
    · obtain ⟨q, h1, h2⟩ := O.way i y z
      refine ⟨q, old _ _ h1, fun k hk => ?_⟩
      obtain ⟨i', h3⟩ := h2 k hk
      exact ⟨i', old _ _ h3⟩
    · subst z
      refine ⟨N, ?_, fun k hk => ?_⟩
      · rw [get, if_pos rfl, hi]
      · have nf := g3 k hk
        have e := Array.getElem?_eq_getElem (xs := owner) (i := sl m y k) (by rw [O.sz]; have := sl_le m y k; omega)
        cases h : owner[sl m y k]'(by rw [O.sz]; have := sl_le m y k; omega) with
        | none => rw [h] at e; exact absurd (freeA_iff.mpr e) nf
        | some i' => rw [h] at e; exact ⟨i', old _ _ e⟩
theorem lay_fold {m : Nat} (M : MskOk m) : ∀ (rest done : List Int) (owner : Array (Option Nat)), OwR m owner done → done.length + rest.length ≤ m →
    ∃ owner', (rest.foldl (fun (acc : Option (Array (Option Nat) × Nat)) h => do
      let (owner, k) ← acc
      let j ← SetTable.layClean.free m owner (SetTable.turns m) (SetTable.bits h % (m + 1)) (SetTable.bits h)
      pure (owner.setIfInBounds j (some k), k + 1)) (some (owner, done.length))) = some (owner', (done ++ rest).length) ∧ OwR m owner' (done ++ rest)
  | [], done, owner, O, _ => ⟨owner, by rw [List.append_nil]; rfl, by rw [List.append_nil]; exact O⟩
  | x :: rest, done, owner, O, hl => by
    rw [List.length_cons] at hl
    obtain ⟨j, h1, h2⟩ := O.step M (by omega) x
    obtain ⟨ow, h3, h4⟩ := lay_fold M rest (done ++ [x]) _ h2 (by rw [List.length_append, List.length_singleton]; omega)
    rw [List.append_assoc] at h3 h4
    refine ⟨ow, ?_, h4⟩
    rw [List.foldl_cons]
    rw [show done ++ x :: rest = done ++ ([x] ++ rest) from rfl, ← h3]
    congr 1
    dsimp only [bind, Option.bind]
    rw [h1]
    rw [List.length_append, List.length_singleton]
    rfl
theorem owR_nil (m : Nat) : OwR m (Array.replicate (m + 1) none) [] := by
  have n : ∀ (j i : Nat), (Array.replicate (m + 1) (none : Option Nat))[j]? ≠ some (some i) := fun j i h => by
    rw [Array.getElem?_replicate] at h
    split at h <;> cases h
  exact ⟨Array.size_replicate, fun j j' i h => absurd h (n j i), fun j i h => absurd h (n j i), fun i x h => by simp at h⟩
theorem lay_clean {m : Nat} (M : MskOk m) (hs : Array Int) (hl : hs.size ≤ m) : ∃ owner, SetTable.layClean m hs = some owner ∧ OwR m owner hs.toList := by
  obtain ⟨ow, h1, h2⟩ := lay_fold M hs.toList [] _ (owR_nil m) (by simpa using hl)
  refine ⟨ow, ?_, by rw [List.nil_append] at h2; exact h2⟩
  unfold SetTable.layClean
  rw [← Array.foldl_toList]
  have h1' := congrArg (Option.map (·.1)) h1
  exact h1'
theorem fm_get {α β : Type} {f : α → Option β} : ∀ (l : List α), (∀ a ∈ l, (f a).isSome = true) → ∀ q : Nat, (l.filterMap f)[q]? = l[q]?.bind f
  | [], _, q => by simp
  | a :: l, h, q => by
    obtain ⟨b, hb⟩ := Option.isSome_iff_exists.mp (h a (List.mem_cons_self))
    rw [List.filterMap_cons, hb]
    dsimp only
    rcases q with _ | q
    · simp [hb]
    · simp only [List.getElem?_cons_succ]
      exact fm_get l (fun x hx => h x (List.mem_cons_of_mem _ hx)) q
theorem perm_nd : ∀ {l k : List Nat}, l.Nodup → k.Nodup → (∀ x, x ∈ l ↔ x ∈ k) → l.Perm k := fun {l k} h1 h2 h => by
  rw [List.perm_iff_count]
  intro a
  by_cases c : a ∈ l
  · rw [List.Nodup.count h1, List.Nodup.count h2, if_pos c, if_pos ((h a).mp c)]
  · rw [List.count_eq_zero.mpr c, List.count_eq_zero.mpr (fun z => c ((h a).mpr z))]
def liveL (m : Nat) (owner : Array (Option Nat)) : List (Nat × Nat) := (List.range (m + 1)).filterMap fun j => (owner.getD j none).map (j, ·)
theorem live_mem {m : Nat} {owner : Array (Option Nat)} {j i : Nat} : (j, i) ∈ liveL m owner ↔ j ≤ m ∧ owner[j]? = some (some i) := by
  unfold liveL
  rw [List.mem_filterMap]
  constructor
  · rintro ⟨j', hj', e⟩
    obtain ⟨i', e1, e2⟩ := Option.map_eq_some_iff.mp e
    cases e2
    have := List.mem_range.mp hj'
    refine ⟨by omega, ?_⟩
    rw [Array.getD_eq_getD_getElem?] at e1
    cases h : owner[j]? with
    | none => rw [h] at e1; cases e1
    | some o => rw [h] at e1; exact congrArg some e1
  · rintro ⟨hj, e⟩
    refine ⟨j, List.mem_range.mpr (by omega), ?_⟩
    rw [Array.getD_eq_getD_getElem?, e]
    rfl
theorem relaid_ok {led : Bool} {t : SetTable} {es : Array (Int × Value)} (hled : t.led = led) {w m : Nat} (hm : SetTable.sizeAbove w - 1 = m) (M : MskOk m) (few : es.size * 5 < m * 3) :
    ∃ t' order, t.relaid (es.map (·.1)) w = some (t', order) ∧ (order.filterMap (es[·]?)).size = es.size ∧ (order.filterMap (es[·]?)).toList.Perm es.toList ∧ TbR led t' (order.filterMap (es[·]?)) ∧ t'.plain = t.plain := by
  obtain ⟨ow, h1, O⟩ := lay_clean M (es.map (·.1)) (by rw [Array.size_map]; omega)
  have hl : (es.map (·.1)).toList.length = es.size := by rw [Array.length_toList, Array.size_map]
  have hget : ∀ (i : Nat) (e : Int × Value), es[i]? = some e → (es.map (·.1)).toList[i]? = some e.1 := fun i e he => by
    rw [Array.getElem?_toList, Array.getElem?_map, he]
    rfl
  have lm := fun j i => live_mem (m := m) (owner := ow) (j := j) (i := i)
  have rl : (liveL m ow).Pairwise fun a b => a.1 < b.1 := List.pairwise_map.mp (rise_live ow (m + 1))
  have nd : ((liveL m ow).map (·.2)).Nodup := by
    unfold List.Nodup
    rw [List.pairwise_map]
    refine List.Pairwise.imp_of_mem ?_ rl
    rintro ⟨j, i⟩ ⟨j', i'⟩ ha hb lt e
    dsimp only at lt e
    subst e
    have := O.inj j j' i ((lm j i).mp ha).2 ((lm j' i).mp hb).2
    omega
  have mem : ∀ i, i ∈ (liveL m ow).map (·.2) ↔ i ∈ List.range es.size := fun i => by
    rw [List.mem_map, List.mem_range]
    constructor
    · rintro ⟨⟨j, i'⟩, ha, rfl⟩
      have := O.lt j i' ((lm j i').mp ha).2
      omega
    · intro hi
      have e := Array.getElem?_eq_getElem (xs := es) (i := i) hi
      obtain ⟨n, w1, _⟩ := O.way i _ (hget i _ e)
      exact ⟨(_, i), (lm _ _).mpr ⟨sl_le _ _ _, w1⟩, rfl⟩
  have pm := perm_nd nd List.nodup_range mem
  have ml := pm.length_eq
  rw [List.length_map, List.length_range] at ml
  have est : ((((liveL m ow).map (·.2)).toArray).filterMap (es[·]?)).toList = ((liveL m ow).map (·.2)).filterMap (es[·]?) := by
    rw [Array.toList_filterMap]
  have all : ∀ i ∈ (liveL m ow).map (·.2), (es[i]?).isSome = true := fun i hi => by
    have := List.mem_range.mp ((mem i).mp hi)
    rw [Array.getElem?_eq_getElem this]
    rfl
  have ran : (List.range es.size).filterMap (es[·]?) = es.toList := by
    refine List.ext_getElem? fun q => ?_
    rw [fm_get _ (fun a ha => by rw [Array.getElem?_eq_getElem (List.mem_range.mp ha)]; rfl)]
    by_cases c : q < es.size
    · rw [List.getElem?_range c, Array.getElem?_toList]
      rfl
    · rw [List.getElem?_eq_none (by rw [List.length_range]; omega), List.getElem?_eq_none (by rw [Array.length_toList]; omega)]
      rfl
  have P2 : (((liveL m ow).map (·.2)).filterMap (es[·]?)).Perm es.toList := by
    have := pm.filterMap (es[·]?)
    rwa [ran] at this
  have sz : ((((liveL m ow).map (·.2)).toArray).filterMap (es[·]?)).size = es.size := by
    rw [← Array.length_toList, est, P2.length_eq, Array.length_toList]
  have ps : (((liveL m ow).map (·.1)).toArray).size = es.size := by rw [List.size_toArray, List.length_map, ml]
  refine ⟨{ mask := m, place := ((liveL m ow).map (·.1)).toArray, dummies := #[], finger := t.finger, led := t.led, moves := t.movedTo m, plain := t.plain }, ((liveL m ow).map (·.2)).toArray, by unfold SetTable.relaid SetTable.laid; rw [hm, h1]; rfl, sz, by rw [est]; exact P2, ⟨⟨⟨rise_list (rise_live ow _), rfl, hled⟩, M, by rw [sz]; exact ps, fun q e he => ?_⟩, by show (((liveL m ow).map (·.1)).toArray).size * 5 < m * 3; rw [ps]; exact few⟩, rfl⟩
  show ∃ n, (((liveL m ow).map (·.1)).toArray)[q]? = some (sl m e.1 n) ∧ ∀ k, k < n → sl m e.1 k ∈ (((liveL m ow).map (·.1)).toArray).toList
  have he : ((((liveL m ow).map (·.2)).toArray).filterMap (es[·]?))[q]? = some e := he
  rw [← Array.getElem?_toList, est, fm_get _ all, List.getElem?_map] at he
  cases hq : (liveL m ow)[q]? with
  | none => rw [hq] at he; cases he
  | some a =>
    obtain ⟨j, i⟩ := a
    rw [hq] at he
    have he : es[i]? = some e := he
    have la := (lm j i).mp (List.mem_of_getElem? hq)
    obtain ⟨n, w1, w2⟩ := O.way i _ (hget i e he)
    have ej := O.inj _ _ _ w1 la.2
    refine ⟨n, ?_, fun k hk => ?_⟩
    · rw [List.getElem?_toArray, List.getElem?_map, hq, ej]
      rfl
    · obtain ⟨i', w3⟩ := w2 k hk
      show _ ∈ (liveL m ow).map (·.1)
      exact List.mem_map.mpr ⟨(_, i'), (lm _ _).mpr ⟨sl_le _ _ _, w3⟩, rfl⟩
end L2
set_option Elab.async false
set_option linter.all false
set_option maxRecDepth 100000
set_option maxHeartbeats 1000000
namespace L2
open PySem PySem.Spec PyProof.Rows
section
variable {prog : Program} {w : World} {ok : Addr → Prop} {A : Around} {E : Value → Shared → Prop} {s : Shared}
abbrev TK (prog : Program) (w : World) (h : Heap) (ks : List Int) (a : Addr) : Prop := IsTupleKey (intKind prog w) h ks a
abbrev hTK (prog : Program) (w : World) (ks : List Int) : Int := tupleKeyHash (intKind prog w) ks
theorem ofA_byValue (n : Nat) {v : Value} (h : carriedByValue v = true) : ofAClassStatement n v = pure false := by
  cases v with
  | ref a => simp [carriedByValue] at h
  | _ => first | rfl | simp [ofAClassStatement] | (unfold ofAClassStatement; rfl)
theorem ofA_false {ks : List Int} {a : Addr} {Q : Bool → Shared → Prop} (hk : TK prog w s.heap ks a) (h : Q false s) : wpAny (model prog w) A (ofAClassStatement 8 (.ref a)) Q E s := by
  have hT := hk.typeIs
  obtain ⟨o, items, n, ho, _, hd, hi⟩ := hk
  unfold ofAClassStatement
  refine wpAny_bind (wpAny_typeOf hT ?_)
  dsimp only
  rw [if_pos (by decide)]
  refine wpAny_bind (wpAny_pure ?_)
  simp only [Bool.not_true, Bool.false_eq_true, if_false]
  refine wpAny_bind (wpAny_seqItems ho hd ?_)
  dsimp only
  refine wpAny_bind ?_
  rw [← Array.forIn_toList]
  refine wpAny_forIn_list _ (fun rest r s' => r.1 = none ∧ s' = s ∧ ∀ v ∈ rest, carriedByValue v = true) _ ?_ ?_ _ _ ⟨rfl, rfl, hi.byValue⟩
  · rintro v rest r s' ⟨hr, rfl, hall⟩
    rw [ofA_byValue _ (hall v List.mem_cons_self)]
    refine wpAny_bind (wpAny_pure ?_)
    simp only [Bool.false_eq_true, if_false]
    exact wpAny_pure ⟨rfl, rfl, fun u hu' => hall u (List.mem_cons_of_mem _ hu')⟩
  · rintro ⟨r1, r2⟩ s' ⟨hr, rfl, _⟩
    simp only at hr
    subst hr
    exact wpAny_pure h
theorem hbv_tuple {ks : List Int} {a : Addr} {Q : Bool → Shared → Prop} (hk : TK prog w s.heap ks a) (h : ∀ b, Q b s) : wpAny (model prog w) A (hashByValue 8 (.ref a)) Q E s := by
  have hT := hk.typeIs
  obtain ⟨o, items, n, ho, _, hd, hi⟩ := hk
  unfold hashByValue
  refine wpAny_bind (wpAny_specialOf hT F.slot_tuple_hash.lookup ?_)
  dsimp only
  refine wpAny_bind (wpAny_seqItems ho hd ?_)
  dsimp only [Option.getD]
  refine wpAny_bind ?_
  rw [← Array.forIn_toList]
  refine wpAny_forIn_list _ (fun rest r s' => s' = s ∧ ∀ v ∈ rest, ∃ k tk, v = Value.int k tk) _ ?_ ?_ _ _ ⟨rfl, ?_⟩
  · rintro v rest r s' ⟨rfl, hall⟩
    obtain ⟨k, tk, rfl⟩ := hall v List.mem_cons_self
    have e : hashByValue 7 (Value.int k tk) = pure true := by unfold hashByValue; rfl
    rw [e]
    refine wpAny_bind (wpAny_pure ?_)
    simp only [Bool.not_true, Bool.false_eq_true, if_false]
    exact wpAny_pure ⟨rfl, fun u hu' => hall u (List.mem_cons_of_mem _ hu')⟩
  · rintro ⟨r1, r2⟩ s' ⟨rfl, _⟩
    cases r1 with
    | none => exact wpAny_pure (h _)
    | some b => exact wpAny_pure (h _)
  · intro v hv
    have : ∀ {x : List Int} {vs : List Value}, ItemsAre (intKind prog w) x vs → ∀ v ∈ vs, ∃ k tk, v = Value.int k tk := fun {x vs} hx => by
      induction hx with
      | nil => intro v hv; cases hv
      | @cons k v' ks vs h1 _ ih =>
        intro v hv
        rcases List.mem_cons.mp hv with rfl | hv
        · have h1 : Value.isInt k v = true := h1
          cases v <;> simp [Value.isInt] at h1
          exact ⟨_, _, rfl⟩
        · exact ih v hv
    exact this hi v hv
theorem seen_false {x : Addr} {kx : List Int} (hx : TK prog w s.heap kx x) {st : List Value} {Q : Bool → Shared → Prop} (hst : ∀ v ∈ st, ∃ ky y, v = .ref y ∧ TK prog w s.heap ky y) (h : Q false s) : wpAny (model prog w) A (searchCouldBeSeen (.ref x) st) Q E s := by
  unfold searchCouldBeSeen
  refine wpAny_bind ?_
  refine wpAny_forIn_list _ (fun rest r s' => r.1 = none ∧ s' = s ∧ ∀ v ∈ rest, ∃ ky y, v = .ref y ∧ TK prog w s.heap ky y) _ ?_ ?_ _ _ ⟨rfl, rfl, hst⟩
  · rintro v rest r s' ⟨hr, rfl, hall⟩
    obtain ⟨ky, y, rfl, hy⟩ := hall v List.mem_cons_self
    have hall' := fun u (hu' : u ∈ rest) => hall u (List.mem_cons_of_mem _ hu')
    dsimp only
    split
    · exact wpAny_pure ⟨rfl, rfl, hall'⟩
    · refine wpAny_bind (wpAny_eqIsQuiet_tuple hx ?_)
      simp only [Bool.not_true, Bool.false_eq_true, if_false]
      refine wpAny_bind (wpAny_eqIsQuiet_tuple hy ?_)
      simp only [Bool.not_true, Bool.false_eq_true, if_false]
      refine wpAny_bind (ofA_false hx ?_)
      simp only [Bool.false_eq_true, if_false]
      refine wpAny_bind (ofA_false hy ?_)
      simp only [Bool.false_eq_true, if_false]
      exact wpAny_pure ⟨rfl, rfl, hall'⟩
  · rintro ⟨r1, r2⟩ s' ⟨hr, rfl, _⟩
    simp only at hr
    subst hr
    exact wpAny_pure h
def EntT (prog : Program) (w : World) (ok : Addr → Prop) (h : Heap) (es : Array (Int × Value)) : Prop := ∀ e ∈ es.toList, ∃ ks y, e = (hTK prog w ks, Value.ref y) ∧ TK prog w h ks y ∧ ok y
def KeyIn (prog : Program) (w : World) (h : Heap) (es : Array (Int × Value)) (ks : List Int) : Prop := ∃ e ∈ es.toList, ∃ y, e.2 = Value.ref y ∧ TK prog w h ks y
theorem TbR.fits {led : Bool} {t : SetTable} {es : Array (Int × Value)} (T : TbR led t es) : t.fits es.size = true := by
  have := T.few
  have := T.len
  unfold SetTable.fits SetTable.fill
  rw [T.z.dum]
  simp
  omega
theorem MskOk.odd {m : Nat} (h : MskOk m) : (m % 2 == 0) = false := by rcases h with rfl | rfl | rfl <;> rfl
theorem search_t {led : Bool} {S x : Addr} {es : Array (Int × Value)} {ep : Nat} {t : SetTable} {kx : List Int} {N : Nat} {Q : SetFound → Shared → Prop} (hu : A.units < cLine) (hS : s.heap.get? S = some (setObj es ep t)) (T : TbR led t es) (en : EntT prog w ok s.heap es) (hx : TK prog w s.heap kx x)
    (hN : N < 10 * SetTable.turns t.mask) (eN : t.slot (sl t.mask (hTK prog w kx) N) = .empty)
    (h1 : KeyIn prog w s.heap es kx → Q (.there none) s)
    (h2 : ∀ n, t.slot (sl t.mask (hTK prog w kx) n) = .empty → (∀ b, b < n → sl t.mask (hTK prog w kx) b ∈ t.place.toList) → ¬ KeyIn prog w s.heap es kx → Q (.free (sl t.mask (hTK prog w kx) n) false) s) :
    ∀ (d a fuel : Nat) (st : Option SetTable.Probe), N - a = d → a ≤ N → d < fuel → (∀ b, b < a → ∃ i, t.slot (sl t.mask (hTK prog w kx) b) = .live i ∧ ∀ e, es[i]? = some e → ∀ y, e.2 = Value.ref y → ¬ TK prog w s.heap kx y) → st.getD (t.probeStart (hTK prog w kx)) = pn t.mask a (stP t.mask (hTK prog w kx)) →
      wpAny (model prog w) A (setSearchFrom S (.ref x) (hTK prog w kx) true fuel st) Q E s := by
  intro d
  induction d using Nat.strongRecOn with
  | ind d ih =>
    intro a fuel st hd ha hf hb hst
    rcases fuel with _ | fuel
    · omega
    obtain ⟨n, n1, n2, n3, n4⟩ := met_next T.z (fun i => (es[i]?.map (·.1)).getD 0) (hTK prog w kx) hN eN ha
    have bef : ∀ b, b < n → ∃ i, t.slot (sl t.mask (hTK prog w kx) b) = .live i ∧ ∀ e, es[i]? = some e → ∀ y, e.2 = Value.ref y → ¬ TK prog w s.heap kx y := fun b hbn => by
      by_cases c : b < a
      · exact hb b c
      · obtain ⟨i, e1, e2⟩ := n3 b (by omega) hbn
        refine ⟨i, e1, fun e he y hy hk => e2 ?_⟩
        obtain ⟨ks, y', e3, hk', _⟩ := en e (List.mem_of_getElem? (by rw [Array.getElem?_toList]; exact he))
        rw [e3] at hy
        cases hy
        have := hk.inj hk'
        subst this
        show (es[i]?.map (·.1)).getD 0 = _
        rw [he, e3]
        rfl
    unfold setSearchFrom
    refine wpAny_bind (wpAny_setState_of hS rfl T.fits ?_)
    dsimp only
    rw [show t.gaveWay = false from T.msk.odd]
    simp only [Bool.false_eq_true, if_false]
    rw [hst]
    split
    · rename_i met hm
      have hm : t.probe (fun i => (es[i]?.map (·.1)).getD 0) (hTK prog w kx) (pn t.mask a (stP t.mask (hTK prog w kx))) = some met := hm
      rcases n4 with ⟨e1, e2⟩ | ⟨i, e1, e2, e3⟩
      · rw [e2] at hm
        cases hm
        dsimp only
        refine wpAny_pure (h2 n e1 (fun b hbn => ?_) fun ⟨e, he, y, hy, hk⟩ => ?_)
        · obtain ⟨i, e4, _⟩ := bef b hbn
          have := T.z.slot_iff.mp e4
          exact List.mem_of_getElem? (by rw [Array.getElem?_toList]; exact this)
        · obtain ⟨i, hi⟩ := List.getElem?_of_mem he
          rw [Array.getElem?_toList] at hi
          obtain ⟨ks, y', e3, hk', _⟩ := en e he
          rw [e3] at hy
          cases hy
          have := hk.inj hk'
          subst this
          obtain ⟨n0, w1, w2⟩ := T.way i e hi
          rw [e3] at w1 w2
          have s0 := T.z.live w1
          have : n0 < n := by
            rcases Nat.lt_trichotomy n0 n with c | c | c
            · exact c
            · rw [c, e1] at s0; cases s0
            · exact absurd (w2 n c) (T.z.empty_iff.mp e1)
          obtain ⟨i', e4, e5⟩ := bef n0 this
          have s0 : t.slot (sl t.mask (hTK prog w kx) n0) = .live i := s0
          rw [s0] at e4
          cases e4
          exact e5 e hi y (by rw [e3]) hk
      · rw [e3] at hm
        cases hm
        dsimp only
        have pl := T.z.slot_iff.mp e1
        have il : i < es.size := by
          rw [← T.len]
          exact (Array.getElem?_eq_some_iff.mp pl).1
        have ei := Array.getElem?_eq_getElem (xs := es) (i := i) il
        have emem : es[i] ∈ es.toList := List.mem_of_getElem? (by rw [Array.getElem?_toList]; exact ei)
        generalize es[i] = e at ei emem
        obtain ⟨ks, y, rfl, hk, _⟩ := en e emem
        split
        · refine wpAny_bind (seen_false hx (fun v hv => ?_) ?_)
          · obtain ⟨e', he', rfl⟩ := List.mem_map.mp hv
            obtain ⟨ks', y', rfl, hk', _⟩ := en e' (by
              have : e' ∈ (es.filter fun x => x.1 == hTK prog w kx) := Array.mem_toList_iff.mp he'
              exact Array.mem_toList_iff.mpr (Array.mem_filter.mp this).1)
            exact ⟨ks', y', rfl, hk'⟩
          · simp only [Bool.false_eq_true, if_false]
            rw [ei]
            dsimp only
            refine wpAny_bind (wpAny_holding (wpAny_eqBool_tuple hu hk hx ?_))
            refine wpAny_bind (wpAny_setState_of hS rfl T.fits ?_)
            dsimp only
            by_cases c : ks = kx
            · rw [decide_eq_true c, if_pos (by rfl)]
              exact wpAny_pure (h1 ⟨_, emem, y, rfl, by rw [← c]; exact hk⟩)
            · rw [decide_eq_false c, if_neg (by simp)]
              rw [show t.sameMemory t.moves t.mask = some true by unfold SetTable.sameMemory; rw [if_pos (by simp)]]
              dsimp only
              rw [if_pos rfl, e1]
              dsimp only
              rw [ei]
              dsimp only
              refine wpAny_bind (wpAny_isSame_ref_self ?_)
              refine wpAny_bind (wpAny_pure ?_)
              simp only [if_true, Bool.false_eq_true, if_false]
              have nN : n ≠ N := fun z => by rw [z, eN] at e1; cases e1
              refine ih (N - (n + 1)) (by omega) (n + 1) fuel _ rfl (by omega) (by omega) (fun b hb => ?_) rfl
              by_cases c2 : b < n
              · exact bef b c2
              · rw [show b = n by omega]
                exact ⟨i, e1, fun e he y' hy' hk2 => by rw [ei] at he; cases he; cases hy'; exact c (hk.inj hk2)⟩
        · rw [ei]
          dsimp only
          refine wpAny_bind (wpAny_holding (wpAny_eqBool_tuple hu hk hx ?_))
          refine wpAny_bind (wpAny_setState_of hS rfl T.fits ?_)
          dsimp only
          by_cases c : ks = kx
          · rw [decide_eq_true c, if_pos (by rfl)]
            exact wpAny_pure (h1 ⟨_, emem, y, rfl, by rw [← c]; exact hk⟩)
          · rw [decide_eq_false c, if_neg (by simp)]
            rw [show t.sameMemory t.moves t.mask = some true by unfold SetTable.sameMemory; rw [if_pos (by simp)]]
            dsimp only
            rw [if_pos rfl, e1]
            dsimp only
            rw [ei]
            dsimp only
            refine wpAny_bind (wpAny_isSame_ref_self ?_)
            refine wpAny_bind (wpAny_pure ?_)
            simp only [if_true, Bool.false_eq_true, if_false]
            have nN : n ≠ N := fun z => by rw [z, eN] at e1; cases e1
            refine ih (N - (n + 1)) (by omega) (n + 1) fuel _ rfl (by omega) (by omega) (fun b hb => ?_) rfl
            by_cases c2 : b < n
            · exact bef b c2
            · rw [show b = n by omega]
              exact ⟨i, e1, fun e he y' hy' hk2 => by rw [ei] at he; cases he; cases hy'; exact c (hk.inj hk2)⟩
    · rename_i hm
      exfalso
      rcases n4 with ⟨_, e2⟩ | ⟨_, _, _, e2⟩ <;> exact hm _ e2
structure SetOT (prog : Program) (w : World) (ok : Addr → Prop) (led : Bool) (h : Heap) (es : Array (Int × Value)) (t : SetTable) (kss : List (List Int)) : Prop where
  tab : TbR led t es
  ent : EntT prog w ok h es
  key : ∀ ks, KeyIn prog w h es ks ↔ ks ∈ kss
  len : es.size = kss.length
def SetT (prog : Program) (w : World) (ok : Addr → Prop) (led : Bool) (h : Heap) (S : Addr) (kss : List (List Int)) : Prop := ∃ es ep t, h.get? S = some (setObj es ep t) ∧ SetOT prog w ok led h es t kss
def stepT (kss : List (List Int)) (k : List Int) : List (List Int) := if k ∈ kss then kss else kss ++ [k]
theorem tk_keep {h h' : Heap} {S y : Addr} {es : Array (Int × Value)} {ep : Nat} {t : SetTable} {ks : List Int} (hS : h.get? S = some (setObj es ep t)) (sb : Heap.SameBut S h h') (hk : TK prog w h ks y) : TK prog w h' ks y := by
  obtain ⟨o, items, n, ho, hc, hd, hi⟩ := hk
  have ne : y ≠ S := fun z => by
    rw [z, hS] at ho
    cases ho
    cases hd
  exact ⟨o, items, n, (sb.2 y ne).trans ho, hc, hd, hi⟩
theorem tk_back {h h' : Heap} {S y : Addr} {es : Array (Int × Value)} {ep : Nat} {t : SetTable} {ks : List Int} (hS : h'.get? S = some (setObj es ep t)) (sb : Heap.SameBut S h h') (hk : TK prog w h' ks y) : TK prog w h ks y := by
  obtain ⟨o, items, n, ho, hc, hd, hi⟩ := hk
  have ne : y ≠ S := fun z => by
    rw [z, hS] at ho
    cases ho
    cases hd
  exact ⟨o, items, n, (sb.2 y ne).symm.trans ho, hc, hd, hi⟩
theorem SetOT.perm {led : Bool} {h h' : Heap} {S : Addr} {es es' : Array (Int × Value)} {ep ep' : Nat} {t t0 t' : SetTable} {kss : List (List Int)} (Z : EntT prog w ok h es ∧ (∀ ks, KeyIn prog w h es ks ↔ ks ∈ kss) ∧ es.size = kss.length) (hS : h.get? S = some (setObj es ep t)) (hS' : h'.get? S = some (setObj es' ep' t0)) (sb : Heap.SameBut S h h') (pm : es'.toList.Perm es.toList) (T : TbR led t' es') : SetOT prog w ok led h' es' t' kss := by
  refine ⟨T, fun e he => ?_, fun ks => ?_, ?_⟩
  · obtain ⟨ks, y, e1, hk, oy⟩ := Z.1 e (pm.mem_iff.mp he)
    exact ⟨ks, y, e1, tk_keep hS sb hk, oy⟩
  · rw [← Z.2.1 ks]
    constructor
    · rintro ⟨e, he, y, hy, hk⟩
      exact ⟨e, pm.mem_iff.mp he, y, hy, tk_back hS' sb hk⟩
    · rintro ⟨e, he, y, hy, hk⟩
      exact ⟨e, pm.mem_iff.mpr he, y, hy, tk_keep hS sb hk⟩
  · rw [← Z.2.2, ← Array.length_toList, pm.length_eq, Array.length_toList]
theorem ins_mem {es : Array (Int × Value)} {q : Nat} {x e : Int × Value} (hq : q ≤ es.size) : e ∈ (SetTable.insertAt es q x).toList ↔ e ∈ es.toList ∨ e = x := by
  constructor
  · intro h
    obtain ⟨i, hi⟩ := List.getElem?_of_mem h
    rw [Array.getElem?_toList, insAt_get _ _ hq] at hi
    split at hi
    · exact .inl (List.mem_of_getElem? (by rw [Array.getElem?_toList]; exact hi))
    · split at hi
      · exact .inr (Option.some.inj hi).symm
      · exact .inl (List.mem_of_getElem? (by rw [Array.getElem?_toList]; exact hi))
  · rintro (h | rfl)
    · obtain ⟨i, hi⟩ := List.getElem?_of_mem h
      rw [Array.getElem?_toList] at hi
      by_cases c : i < q
      · exact List.mem_of_getElem? (i := i) (by rw [Array.getElem?_toList, insAt_get _ _ hq, if_pos c]; exact hi)
      · exact List.mem_of_getElem? (i := i + 1) (by rw [Array.getElem?_toList, insAt_get _ _ hq, if_neg (by omega), if_neg (by omega)]; exact hi)
    · exact List.mem_of_getElem? (i := q) (by rw [Array.getElem?_toList, insAt_get _ _ hq, if_neg (by omega), if_pos rfl])
theorem tail_t {led : Bool} {S x : Addr} {es es1 : Array (Int × Value)} {ep : Nat} {t t2 : SetTable} {kss : List (List Int)} {kx : List Int} {Q : Bool → Shared → Prop} (ho : s.heap.get? S = some (setObj es ep t)) (ent : EntT prog w ok s.heap es) (key : ∀ ks, KeyIn prog w s.heap es ks ↔ ks ∈ kss) (ln : es.size = kss.length) (hx : TK prog w s.heap kx x) (okx : ok x) (nin : kx ∉ kss)
    (W1 : TbW led t2 es1) (few : es.size * 5 < t2.mask * 3) (sz1 : es1.size = es.size + 1) (im : ∀ e, e ∈ es1.toList ↔ e ∈ es.toList ∨ e = (hTK prog w kx, Value.ref x)) (hr : es.size + 1 ≤ 76)
    (h : ∀ (b : Bool) h', Heap.SameBut S s.heap h' → SetT prog w ok led h' S (kss ++ [kx]) → Q b { s with heap := h' }) :
    wpAny (model prog w) A (do
      storeSet S es1 t2
      if (!false && t2.tooFull) = true then do
          setRelay S (SetTable.grown (es.size + 1))
          pure true
        else pure true) Q E s := by
  have tl := W1.len
  have sb : es1.size < scanBound := by unfold scanBound; omega
  refine wpAny_bind (wpAny_storeSet_of ho rfl ?_ (fits_of_scanBound sb))
  have o1 : (s.heap.update S (Obj.putSet es1 t2)).get? S = some (setObj es1 (ep + 1) t2) := put_at ho
  have b1 := Heap.SameBut.update s.heap S (Obj.putSet es1 t2)
  have fl : t2.fill = es1.size := by unfold SetTable.fill; rw [W1.z.dum, tl]; rfl
  have Z1 : EntT prog w ok (s.heap.update S (Obj.putSet es1 t2)) es1 ∧ (∀ ks, KeyIn prog w (s.heap.update S (Obj.putSet es1 t2)) es1 ks ↔ ks ∈ kss ++ [kx]) ∧ es1.size = (kss ++ [kx]).length := by
    refine ⟨fun e he => ?_, fun ks => ?_, by rw [List.length_append, List.length_singleton]; omega⟩
    · rcases (im e).mp he with z | z
      · obtain ⟨ks, y, e1, hk, oy⟩ := ent e z
        exact ⟨ks, y, e1, tk_keep ho b1 hk, oy⟩
      · exact ⟨kx, x, z, tk_keep ho b1 hx, okx⟩
    · rw [List.mem_append, List.mem_singleton, ← key ks]
      constructor
      · rintro ⟨e, he, y, hy, hk⟩
        have hk0 := tk_back o1 b1 hk
        rcases (im e).mp he with z | z
        · exact .inl ⟨e, z, y, hy, hk0⟩
        · rw [z] at hy
          cases hy
          exact .inr (hk0.inj hx)
      · rintro (⟨e, he, y, hy, hk⟩ | z)
        · exact ⟨e, (im e).mpr (.inl he), y, hy, tk_keep ho b1 hk⟩
        · subst z
          exact ⟨_, (im _).mpr (.inr rfl), x, rfl, tk_keep ho b1 hx⟩
  by_cases tf : t2.tooFull = true
  · rw [if_pos (by rw [tf]; rfl)]
    have tf' : t2.fill * 5 ≥ t2.mask * 3 := by simpa [SetTable.tooFull] using tf
    rw [fl] at tf'
    have two : (t2.mask = 7 ∧ es.size = 4) ∨ (t2.mask = 31 ∧ es.size = 18) := by
      rcases W1.msk with z | z | z
      · left; rw [z] at tf' few; exact ⟨z, by omega⟩
      · right; rw [z] at tf' few; exact ⟨z, by omega⟩
      · rw [z] at tf' few; omega
    obtain ⟨m, hm1, M, hm3, hm4⟩ : ∃ m, SetTable.sizeAbove (SetTable.grown (es.size + 1)) - 1 = m ∧ MskOk m ∧ es1.size * 5 < m * 3 ∧ ¬ (SetTable.sizeAbove (SetTable.grown (es.size + 1)) > sizeLine) := by
      rcases two with ⟨_, z⟩ | ⟨_, z⟩
      · exact ⟨31, by rw [z]; decide, .inr (.inl rfl), by omega, by rw [z]; decide⟩
      · exact ⟨127, by rw [z]; decide, .inr (.inr rfl), by omega, by rw [z]; decide⟩
    obtain ⟨t3, order, r1, r2, r3, r4, _⟩ := relaid_ok (es := es1) W1.z.led_ hm1 M hm3
    have ft : t2.fits es1.size = true := by
      unfold SetTable.fits
      rw [tl, fl]
      rcases two with ⟨z, y⟩ | ⟨z, y⟩ <;> rw [z, sz1, y] <;> rfl
    refine wpAny_bind ?_
    unfold setRelay
    refine wpAny_bind (wpAny_setState_of o1 rfl ft ?_)
    dsimp only
    rw [if_neg hm4, r1]
    refine wpAny_bind ?_
    change wpAny _ _ (do
      if ((order.filterMap (es1[·]?)).size != es1.size) = true then unsupported "internal:set-table-lost-an-element"
      pure (order.filterMap (es1[·]?), t3)) _ _ _
    rw [if_neg (by rw [r2]; simp)]
    refine wpAny_pure (wpAny_storeSet_of o1 rfl ?_ (fits_of_scanBound (by rw [r2]; exact sb)))
    refine wpAny_pure ?_
    have o2 := put_at (es' := order.filterMap (es1[·]?)) (t' := t3) o1
    have b2 := Heap.SameBut.update (s.heap.update S (Obj.putSet es1 t2)) S (Obj.putSet (order.filterMap (es1[·]?)) t3)
    exact h true _ (b1.trans b2) ⟨_, _, t3, o2, SetOT.perm Z1 o1 o2 b2 r3 r4⟩
  · rw [if_neg (by simpa using tf)]
    have T1 : TbR led t2 es1 := ⟨W1, by
      have : ¬ (t2.fill * 5 ≥ t2.mask * 3) := by simpa [SetTable.tooFull] using tf
      rw [fl] at this
      rw [tl]
      omega⟩
    exact wpAny_pure (h true _ b1 ⟨es1, _, t2, o1, T1, Z1.1, Z1.2.1, Z1.2.2⟩)
theorem setAdd_t {led : Bool} {S x : Addr} {kss : List (List Int)} {kx : List Int} {Q : Bool → Shared → Prop} (hu : A.units < cLine) (hS : SetT prog w ok led s.heap S kss) (hx : TK prog w s.heap kx x) (okx : ok x) (hr : kss.length + 1 ≤ 76)
    (h : ∀ (b : Bool) h', Heap.SameBut S s.heap h' → SetT prog w ok led h' S (stepT kss kx) → Q b { s with heap := h' }) : wpAny (model prog w) A (setAddHashed S (.ref x) (hTK prog w kx)) Q E s := by
  obtain ⟨es, ep, t, ho, Z⟩ := hS
  have T := Z.tab
  have ln := Z.len
  have tl := T.len
  have few := T.few
  obtain ⟨N, hN, eN⟩ := T.free (hTK prog w kx)
  have fuelOk : N - 0 < 100000 := by
    have : SetTable.turns t.mask ≤ 142 := by unfold SetTable.turns; rcases T.msk with z | z | z <;> omega
    omega
  unfold setAddHashed setAddHashedIn
  refine wpAny_holding (wpAny_bind (wpAny_setState_of ho rfl T.fits ?_))
  dsimp only
  rw [show byScan (.ref x) es = false from rfl]
  simp only [Bool.false_eq_true, if_false]
  unfold setSearch
  refine wpAny_bind (search_t hu ho T Z.ent hx hN eN (fun hk => ?_) (fun n e1 hb nk => ?_) _ 0 100000 none rfl (Nat.zero_le _) fuelOk (fun b hb => by omega) rfl)
  · dsimp only
    refine wpAny_pure (h false s.heap (Heap.SameBut.refl S s.heap) ⟨es, ep, t, ho, ?_⟩)
    unfold stepT
    rw [if_pos ((Z.key kx).mp hk)]
    exact Z
  · dsimp only
    refine wpAny_bind (wpAny_setState_of ho rfl T.fits ?_)
    dsimp only
    obtain ⟨W1, mk, pl, mv, pe⟩ := T.put (.ref x) e1 hb
    have nin : kx ∉ kss := fun z => nk ((Z.key kx).mpr z)
    have st : stepT kss kx = kss ++ [kx] := by unfold stepT; rw [if_neg nin]
    generalize t.put (sl t.mask (hTK prog w kx) n) = Y at W1 mk pl mv pe ⊢
    obtain ⟨t1, q⟩ := Y
    dsimp only at W1 mk pl mv pe ⊢
    have sz1 : (SetTable.insertAt es q (hTK prog w kx, Value.ref x)).size = es.size + 1 := insAt_size pe
    have im := fun e => ins_mem (es := es) (q := q) (x := (hTK prog w kx, Value.ref x)) (e := e) pe
    generalize SetTable.insertAt es q (hTK prog w kx, Value.ref x) = es1 at W1 sz1 im ⊢
    rw [st] at h
    have fin : ∀ t2 : SetTable, TbW led t2 es1 → t2.mask = t.mask → wpAny (model prog w) A (do
      storeSet S es1 t2
      if (!false && t2.tooFull) = true then do
          setRelay S (SetTable.grown (es.size + 1))
          pure true
        else pure true) Q E s := fun t2 W2 mk2 => tail_t ho Z.ent Z.key ln hx okx nin W2 (by rw [mk2]; omega) sz1 im (by omega) h
    split
    · refine wpAny_bind (hbv_tuple hx fun b => ?_)
      cases b with
      | true => exact fin _ W1 mk
      | false => exact fin _ ⟨⟨W1.z.rise, W1.z.dum, W1.z.led_⟩, W1.msk, W1.len, W1.way⟩ mk
    · refine wpAny_bind (wpAny_pure ?_)
      exact fin _ W1 mk
theorem SetT.keep {led : Bool} {h h' : Heap} {S : Addr} {kss : List (List Int)} (z : SetT prog w ok led h S kss) (kS : ∀ o, h.get? S = some o → h'.get? S = some o) (kO : ∀ y o, ok y → h.get? y = some o → h'.get? y = some o) : SetT prog w ok led h' S kss := by
  obtain ⟨es, ep, t, ho, Z⟩ := z
  have kT : ∀ {ks y}, ok y → TK prog w h ks y → TK prog w h' ks y := fun oy ⟨o, items, n, h1, h2, h3, h4⟩ => ⟨o, items, n, kO _ _ oy h1, h2, h3, h4⟩
  refine ⟨es, ep, t, kS _ ho, Z.tab, fun e he => ?_, fun ks => ?_, Z.len⟩
  · obtain ⟨ks, y, e1, hk, oy⟩ := Z.ent e he
    exact ⟨ks, y, e1, kT oy hk, oy⟩
  · rw [← Z.key ks]
    constructor
    · rintro ⟨e, he, y, hy, hk⟩
      obtain ⟨ks', y', e1, hk', oy⟩ := Z.ent e he
      rw [e1] at hy
      cases hy
      have := hk.inj (kT oy hk')
      subst this
      exact ⟨e, he, y, by rw [e1], hk'⟩
    · rintro ⟨e, he, y, hy, hk⟩
      obtain ⟨ks', y', e1, hk', oy⟩ := Z.ent e he
      rw [e1] at hy
      cases hy
      exact ⟨e, he, y, by rw [e1], kT oy hk⟩
theorem tabR_fresh (led : Bool) : TbR led (.fresh 0 0 led) #[] := ⟨⟨tabZ_fresh led, .inl rfl, rfl, fun i e he => by simp at he⟩, by show 0 * 5 < 7 * 3; decide⟩
theorem setT_new {led : Bool} {h : Heap} {S : Addr} (e : h.get? S = some (setObj #[] 0 (.fresh 0 0 led))) : SetT prog w ok led h S [] :=
  ⟨#[], 0, _, e, tabR_fresh led, fun x hx => by simp at hx, fun ks => ⟨fun ⟨e, he, _⟩ => by simp at he, fun h => by cases h⟩, rfl⟩
theorem stepT_len (kss : List (List Int)) (k : List Int) : (stepT kss k).length ≤ kss.length + 1 := by
  unfold stepT
  split
  · omega
  · rw [List.length_append]; exact Nat.le_refl _
end
section
variable {prog : Program} {w : World} {ok : Addr → Prop} {A : Around} {R : Result → Shared → Prop} {I : Addr} {fp wr : List Addr} {G : Array GenState → Array GenState → Prop} {P : Nat → Value → Prop} {St : Nat → Shared → Prop}
theorem loop_t {nss : List (List Int)} {as : List Addr} (W : WalksS prog w A.in1 I fp wr G nss.length P St) (S : Addr) (hSf : S ∉ fp) (hv : ∀ i v, P i v → ∃ a, as[i]? = some a ∧ v = .ref a) (hok : ∀ a ∈ as, ok a) (hw : ∀ a, ok a → a ∉ wr ∧ a ≠ S) (hu : A.in1.units < cLine) {led : Bool} :
    ∀ (m i : Nat) (s : Shared) (kss : List (List Int)), nss.length - i = m → i ≤ nss.length → St i s → SetT prog w ok led s.heap S kss → (∀ (i : Nat) (a : Addr) (ks : List Int), as[i]? = some a → nss[i]? = some ks → TK prog w s.heap ks a) → kss.length + m ≤ 76 →
      (∀ s', Moved (S :: wr) G s s' → SetT prog w ok led s'.heap S ((nss.drop i).foldl stepT kss) → R (.ok (.ret .none)) s') → codeAny (model prog w) A (.builtin "set.update.loop" ⟨[.ref S, .ref I], []⟩) R s := by
  have hSw : S ∉ wr := fun h => hSf (W.sub _ h)
  have sub : ∀ b ∈ wr, b ∈ S :: wr := fun b hb => List.mem_cons_of_mem _ hb
  intro m
  induction m with
  | zero =>
    intro i s kss hm hi st hz ht hb hR
    have e : i = nss.length := by omega
    subst e
    refine codeAny_builtin F.entry_set_update_loop ?_
    rw [Around.under_plainId F.plain_set_update_loop _]
    show wpAny _ A.in1 (pyNext (.ref I) >>= _) _ _ s
    refine wpAny_bind (W.done s _ _ st fun s' mv => ?_)
    show wpAny _ A.in1 (ret Value.none) _ _ s'
    refine wpAny_pure (hR s' (mv.mono sub) ?_)
    rw [List.drop_length]
    exact hz.keep (fun o e => mv.heap S _ hSw e) (fun y o oy e => mv.heap y _ (hw y oy).1 e)
  | succ m ih =>
    intro i s kss hm hi st hz ht hb hR
    have hlt : i < nss.length := by omega
    refine codeAny_builtin F.entry_set_update_loop ?_
    rw [Around.under_plainId F.plain_set_update_loop _]
    show wpAny _ A.in1 (pyNext (.ref I) >>= _) _ _ s
    refine wpAny_bind (W.item i s _ _ hlt st fun v s' hP st' mv => ?_)
    obtain ⟨a, ha, rfl⟩ := hv i v hP
    have oa := hok a (List.mem_of_getElem? ha)
    have kO : ∀ y o, ok y → s.heap.get? y = some o → s'.heap.get? y = some o := fun y o oy e => mv.heap y _ (hw y oy).1 e
    have hz' : SetT prog w ok led s'.heap S kss := hz.keep (fun o e => mv.heap S _ hSw e) kO
    have kT : ∀ {ks y}, ok y → TK prog w s.heap ks y → TK prog w s'.heap ks y := fun oy ⟨o, items, n, h1, h2, h3, h4⟩ => ⟨o, items, n, kO _ _ oy h1, h2, h3, h4⟩
    have hki := List.getElem?_eq_getElem hlt
    have hk := kT oa (ht i a _ ha hki)
    show wpAny _ A.in1 (holding [Value.ref a] (setAdd S (.ref a)) >>= _) _ _ s'
    refine wpAny_bind (wpAny_holding ?_)
    unfold setAdd
    refine wpAny_holding (wpAny_bind (wpAny_pyHash_tuple hu hk ?_))
    refine setAdd_t (s := { s' with toks := s'.toks + (nss[i].length + 1) }) hu hz' hk oa (by omega) fun b h' sb hz2 => ?_
    have dl := stepT_len kss nss[i]
    have kO2 : ∀ y o, ok y → s'.heap.get? y = some o → h'.get? y = some o := fun y o oy e => by rw [sb.2 y (hw y oy).2]; exact e
    refine wpAny_pure ⟨plainId_quiet F.plain_set_update_loop _, ih (i + 1) _ (stepT kss nss[i]) (by omega) hlt (W.frame _ s' _ _ st' (Nat.le_add_right _ _) fun b hb o e => ?_) hz2 (fun i' a' ks' h1 h2 => ?_) (by omega) fun s'' mv' hz3 => ?_⟩
    · rw [sb.2 b fun h : b = S => hSf (by rw [← h]; exact hb)]
      exact e
    · have oa' := hok a' (List.mem_of_getElem? h1)
      obtain ⟨o, items, n, g1, g2, g3, g4⟩ := kT oa' (ht i' a' ks' h1 h2)
      exact ⟨o, items, n, kO2 _ _ oa' g1, g2, g3, g4⟩
    · refine hR s'' (Moved.trans W.gtrans ((mv.mono sub).then_heap (Nat.le_add_right _ _) fun b o hb e => ?_) mv') ?_
      · rw [sb.2 b fun h : b = S => hb (by rw [h]; exact List.mem_cons_self)]
        exact e
      · rw [List.drop_eq_getElem_cons hlt, List.foldl_cons]
        exact hz3
end
end L2
set_option Elab.async false
set_option linter.all false
set_option maxRecDepth 100000
set_option maxHeartbeats 1000000
namespace L2
open PySem PySem.Spec PyProof.Rows
section
variable {prog : Program} {w : World} {A : Around} {E : Value → Shared → Prop} {s : Shared}
def SetN (h : Heap) (a : Addr) (n : Nat) : Prop := ∃ es ep t, h.get? a = some (setObj es ep t) ∧ t.fits es.size = true ∧ es.size = n
theorem SetN.keep {h h' : Heap} {a : Addr} {n : Nat} (z : SetN h a n) (k : ∀ o, h.get? a = some o → h'.get? a = some o) : SetN h' a n := by
  obtain ⟨es, ep, t, ho, Z⟩ := z
  exact ⟨es, ep, t, k _ ho, Z⟩
theorem call_setT {l : Addr} {as : List Addr} {nss : List (List Int)} {Q : Value → Shared → Prop} (hh : A.handled = none) (hl : s.heap.IsList l (as.map Value.ref).toArray) (ht : ∀ (i : Nat) (a : Addr) (ks : List Int), as[i]? = some a → nss[i]? = some ks → TK prog w s.heap ks a) (ln : as.length = nss.length) (hb : nss.length ≤ 76) (hu : A.units + 16 < cLine)
    (h : ∀ (h' : Heap) (tk : Nat), SetN h' s.heap.objs.size (nss.foldl stepT []).length → (∀ b o, s.heap.get? b = some o → h'.get? b = some o) → Q (.ref s.heap.objs.size) { s with heap := h', toks := tk }) :
    wpAny (model prog w) A (call (.type "set") [.ref l]) Q E s := by
  refine callSet (Q₁ := fun obj s₁ => obj = .ref s.heap.objs.size ∧ s₁ = { s with heap := s.heap.push (setObj #[] 0 (.fresh 0 0 (ledOf w))) }) (new_z _ ⟨rfl, rfl⟩) fun obj s₁ h₁ => ?_
  obtain ⟨rfl, rfl⟩ := h₁
  have hS : (s.heap.push (setObj #[] 0 (.fresh 0 0 (ledOf w)))).get? s.heap.objs.size = some (setObj #[] 0 (.fresh 0 0 (ledOf w))) := Heap.get?_push_size _ rfl
  refine ⟨⟨_, hS, rfl⟩, ?_⟩
  have hl1 : (s.heap.push (setObj #[] 0 (.fresh 0 0 (ledOf w)))).IsList l (as.map Value.ref).toArray := hl.push _
  obtain ⟨ol, hol, hcl, nl, hdl⟩ := hl
  have lS : l < s.heap.objs.size := Heap.lt_size hol
  obtain ⟨ocls, odict, odata, oslots⟩ := ol
  simp only at hcl hdl
  subst hcl; subst hdl
  have hol' := Heap.get?_push_of_some (setObj #[] 0 (.fresh 0 0 (ledOf w))) hol
  have f1 := PySem.F.sub_list_set
  have f2 := PySem.F.sub_list_frozenset
  have f3 : (Value.type "list" == Value.type "dict") = false := by decide
  unfold Builtin.«set.__init__» noKeywords Builtin.Frozenset.updateFrom
  generalize hPI : pyIter = PI
  wp_walk
  subst hPI
  refine wpAny_pyIter_list hl1 ?_
  refine wpAny_bind (wpAny_runValue ?_)
  have neI : l ≠ (s.heap.push (setObj #[] 0 (.fresh 0 0 (ledOf w)))).objs.size := by
    rw [Heap.size_push]; exact Nat.ne_of_lt (Nat.lt_succ_of_lt lS)
  have nSf : s.heap.objs.size ∉ [(s.heap.push (setObj #[] 0 (.fresh 0 0 (ledOf w)))).objs.size, l] := by
    rw [Heap.size_push]
    simp only [List.mem_cons, List.not_mem_nil, or_false, not_or]
    exact ⟨Nat.ne_of_lt (Nat.lt_succ_self _), Nat.ne_of_gt lS⟩
  have W := (Walks.list (prog := prog) (w := w) (A := A.in1.in1.in1) (by simp [hh]) _ l neI (as.map Value.ref).toArray).toS
  rw [show (as.map Value.ref).toArray.size = nss.length by rw [List.size_toArray, List.length_map]; exact ln] at W
  have okl : ∀ a ∈ as, a < s.heap.objs.size := fun a ha => by
    obtain ⟨i, hi⟩ := List.getElem?_of_mem ha
    have il := (List.getElem?_eq_some_iff.mp hi).1
    obtain ⟨o, _, _, g, _⟩ := ht i a _ hi (List.getElem?_eq_getElem (by omega))
    exact Heap.lt_size g
  refine loop_t (ok := fun a => a < s.heap.objs.size) (as := as) W s.heap.objs.size nSf (fun i v hv => ?_) okl (fun a oa => ?_) (by first | (show A.units + 1 + 1 + 1 < cLine; omega) | (show A.units + 1 + 1 + 1 + 1 < cLine; omega)) (led := ledOf w) nss.length 0 _ [] (by omega) (Nat.zero_le _) ⟨⟨_, Heap.get?_push_size _ rfl, rfl, rfl⟩, hl1.push _⟩ (setT_new (Heap.get?_push_of_some _ hS)) (fun i a ks h1 h2 => ?_) (by simpa using hb) fun s' mv hz => ?_
  · have hv : (as.map Value.ref).toArray[i]? = some v := hv
    rw [List.getElem?_toArray, List.getElem?_map] at hv
    obtain ⟨a, h1, h2⟩ := Option.map_eq_some_iff.mp hv
    exact ⟨a, h1, h2.symm⟩
  · refine ⟨?_, Nat.ne_of_lt oa⟩
    rw [Heap.size_push, List.mem_singleton]
    exact Nat.ne_of_lt (Nat.lt_succ_of_lt oa)
  · obtain ⟨o, items, n, g1, g2, g3, g4⟩ := ht i a ks h1 h2
    exact ⟨o, items, n, Heap.get?_push_of_some _ (Heap.get?_push_of_some _ g1), g2, g3, g4⟩
  · obtain ⟨h', g', d', tk', os'⟩ := s'
    have eg : g' = s.gens := mv.gens
    have ed : d' = s.drawn := mv.drawn
    have eo : os' = s.os := mv.os
    subst eg; subst ed; subst eo
    show wpAny _ _ _ _ _ _
    refine wpAny_pure ?_
    show wpAny _ _ (ret Value.none) _ _ _
    refine wpAny_pure ⟨rfl, h h' tk' ?_ fun b o e => ?_⟩
    · obtain ⟨es, ep, t, ho, Z⟩ := hz
      exact ⟨es, ep, t, ho, Z.tab.fits, Z.len⟩
    have hb1 : b < s.heap.objs.size := Heap.lt_size e
    refine mv.heap b o ?_ (Heap.get?_push_of_some _ (Heap.get?_push_of_some _ e))
    rw [Heap.size_push]
    simp only [List.mem_cons, List.not_mem_nil, or_false, not_or]
    exact ⟨Nat.ne_of_lt hb1, Nat.ne_of_lt (Nat.lt_succ_of_lt hb1)⟩
end
theorem vals_refsT : ∀ {as : List Addr} {its : List Value}, Vals (as.map V.ref) its → its = as.map Value.ref
  | [], _, h => by cases h; rfl
  | a :: as, _, h => by
    cases h with
    | cons h1 h2 =>
      cases h1
      rw [vals_refsT h2]
      rfl
theorem ints_items {prog : Program} {w : World} : ∀ {ks : List Int} {its : List Value}, Vals (ks.map V.int) its → ItemsAre (intKind prog w) ks its
  | [], _, h => by cases h; exact .nil
  | k :: ks, _, h => by
    cases h with
    | cons h1 h2 =>
      obtain ⟨tk, rfl⟩ := h1
      exact .cons (intKind_is _ _ _ _) (ints_items h2)
theorem hts_refs {H : Hp} {vs : List V} {rs : List (List Int)} (h : HTs iT H vs rs) : ∃ as : List Addr, vs = as.map V.ref ∧ as.length = rs.length ∧ ∀ (i : Nat) (a : Addr) (r : List Int), as[i]? = some a → rs[i]? = some r → H a = some (.tup (iT r)) := by
  refine ⟨vs.map fun v => match v with | .ref a => a | _ => 0, ?_, by rw [List.length_map, h.len], fun i a r ha hr => ?_⟩
  · refine List.ext_getElem? fun i => ?_
    rw [List.getElem?_map, List.getElem?_map]
    by_cases c : i < rs.length
    · obtain ⟨p, e, _⟩ := h.at_ i _ (List.getElem?_eq_getElem c)
      rw [e]
      rfl
    · rw [List.getElem?_eq_none (by rw [h.len]; omega)]
      rfl
  · obtain ⟨p, e, hp⟩ := h.at_ i r hr
    rw [List.getElem?_map, e] at ha
    cases ha
    exact hp
def SetNE (a : Addr) (n : Nat) : HO := .ext (fun h => SetN h a n)
def rSetT : List V → Hp → VK → Prop := fun xs H Q => ∃ (p : Addr) (vs : List V) (rs : List (List Int)), xs = [.ref p] ∧ H p = some (.lst vs) ∧ HTs iT H vs rs ∧ rs.length ≤ 76 ∧ ∀ a, H a = none → Q (.ref a) (upd H a (SetNE a (rs.foldl stepT []).length))
theorem call_setTL {X : Cx} {k : Nat} (hc : X.calm = true) (hr : Room k X.A) : CallR X (.type "set") rSetT := by
  intro pins s σ H xs us Q I r h
  obtain ⟨p, vs, rs, rfl, hp, ht, hl, q⟩ := h
  obtain ⟨u, rfl, ru⟩ := vals1 r
  cases ru
  obtain ⟨as, rfl, al, hat⟩ := hts_refs ht
  obtain ⟨hz, its, c, rv, _, ho⟩ := I.lstM hp
  have ei := vals_refsT rv
  subst ei
  have un := hr.units
  refine call_setT (I.ok.hd hc) (as := as) (nss := rs) ⟨_, ho, rfl, c, rfl⟩ (fun i a ks h1 h2 => ?_) al hl (by omega) fun h' tk z kp => ?_
  · obtain ⟨its, r, ⟨o, e, ec, n, d⟩, _⟩ := I.tuple (SqT.of (hat i a ks h1 h2))
    exact ⟨o, its.toArray, n, e, ec, d, ints_items r⟩
  · refine ⟨.ref s.heap.objs.size, _, I.laid (t' := tk) kp (Nat.le_refl _) ?_, rfl, q _ I.fresh⟩
    show (SetN h' s.heap.objs.size _) ∧ _
    refine ⟨z, ?_, fun h1 h2 z1 k => z1.keep k⟩
    obtain ⟨es, ep, t, e, _⟩ := z
    exact ⟨_, e⟩
def rLenT : List V → Hp → VK → Prop := fun xs H Q => ∃ (a : Addr) (n : Nat), xs = [.ref a] ∧ H a = some (SetNE a n) ∧ n ≤ 1000 ∧ Q (.int n) H
theorem call_lenT {X : Cx} : CallR X (.builtin "len") rLenT := by
  intro pins s σ H xs us Q I r h
  obtain ⟨a, n, rfl, ha, hn, q⟩ := h
  obtain ⟨u, rfl, ru⟩ := vals1 r
  cases ru
  obtain ⟨⟨es, ep, t, ho, hf, hsz⟩, _⟩ := I.hok a _ ha
  subst hsz
  refine call_len_set ho ⟨rfl, rfl, rfl⟩ rfl hf (by omega) ⟨.int es.size, H, I.tok _, ⟨_, rfl⟩, q⟩
theorem stepT_nd {kss : List (List Int)} {k : List Int} (h : kss.Nodup) : (stepT kss k).Nodup := by
  unfold stepT
  split
  · exact h
  · rename_i z
    rw [List.nodup_append]
    exact ⟨h, (by simp), fun x hx y hy e => z (by rw [List.mem_singleton.mp hy] at e; rw [← e]; exact hx)⟩
theorem foldT_len : ∀ (rs kss : List (List Int)), (rs.foldl stepT kss).length ≤ kss.length + rs.length
  | [], kss => Nat.le_refl _
  | r :: rs, kss => by
    have h1 := foldT_len rs (stepT kss r)
    have h2 := stepT_len kss r
    rw [List.foldl_cons, List.length_cons]
    omega
theorem foldT_iff : ∀ (rs kss : List (List Int)), kss.Nodup → ((rs.foldl stepT kss).length = kss.length + rs.length ↔ (kss ++ rs).Nodup)
  | [], kss, h => by rw [List.append_nil]; exact ⟨fun _ => h, fun _ => rfl⟩
  | r :: rs, kss, h => by
    have ih := foldT_iff rs (stepT kss r) (stepT_nd h)
    have fl := foldT_len rs (stepT kss r)
    rw [List.foldl_cons, List.length_cons]
    by_cases c : r ∈ kss
    · have e : stepT kss r = kss := by unfold stepT; rw [if_pos c]
      rw [e] at fl ⊢
      constructor
      · intro z; omega
      · intro z
        exfalso
        have := (List.nodup_append.mp z).2.2 r c r (List.mem_cons_self)
        exact this rfl
    · have e : stepT kss r = kss ++ [r] := by unfold stepT; rw [if_neg c]
      rw [e] at ih ⊢
      rw [List.length_append, List.length_singleton, List.append_assoc] at ih
      rw [← show kss ++ ([r] ++ rs) = kss ++ r :: rs from rfl, ← ih]
      constructor <;> intro z <;> omega
end L2
set_option Elab.async false
set_option linter.all false
set_option maxRecDepth 100000
set_option maxHeartbeats 1000000
namespace L2
open PySem PySem.Spec PyProof.Rows
theorem list_choice {α : Type} {P : Nat → α → Prop} : ∀ n : Nat, (∀ i, i < n → ∃ x, P i x) → ∃ xs : List α, xs.length = n ∧ ∀ (i : Nat) x, xs[i]? = some x → P i x
  | 0, _ => ⟨[], rfl, fun i x h => by simp at h⟩
  | n + 1, h => by
    obtain ⟨xs, h1, h2⟩ := list_choice n fun i hi => h i (by omega)
    obtain ⟨x, hx⟩ := h n (by omega)
    refine ⟨xs ++ [x], by rw [List.length_append, h1]; rfl, fun i y hy => ?_⟩
    rcases get_snoc hy with ⟨_, z⟩ | ⟨il, rfl⟩
    · exact h2 i y z
    · rw [il, h1]; exact hx
def tri (x : Addr × Int × Int) : List V := [.ref x.1, .int x.2.1, .int x.2.2]
theorem fm_tri {H : Hp} {ws : List V} {rows : List (List Int)} (h : FmL H ws rows) : ∃ xs : List (Addr × Int × Int), xs.length = rows.length ∧ HTs tri H ws xs ∧ ∀ (i : Nat) x row, xs[i]? = some x → rows[i]? = some row → ((∀ y ∈ row, y = 0) ∧ x.2.2 = 0) ∨ ∃ (fs : List Int) (k : Nat), H x.1 = some (.tup (iT fs)) ∧ Frm row fs k x.2.2 := by
  obtain ⟨xs, h1, h2⟩ := list_choice (P := fun i (x : Addr × Int × Int) => ∃ row t, rows[i]? = some row ∧ ws[i]? = some (.ref t) ∧ H t = some (.tup (tri x)) ∧ (((∀ y ∈ row, y = 0) ∧ x.2.2 = 0) ∨ ∃ (fs : List Int) (k : Nat), H x.1 = some (.tup (iT fs)) ∧ Frm row fs k x.2.2)) rows.length fun i hi => by
    have er := List.getElem?_eq_getElem hi
    have ew := List.getElem?_eq_getElem (l := ws) (i := i) (by rw [h.1]; exact hi)
    obtain ⟨t, e, ⟨z, r, ht⟩ | ⟨f, fs, k, g, ht, hf, F⟩⟩ := h.2 i _ _ ew er
    · rw [e] at ew
      exact ⟨(r, 0, 0), _, t, er, ew, ht, .inl ⟨z, rfl⟩⟩
    · rw [e] at ew
      exact ⟨(f, k, g), _, t, er, ew, ht, .inr ⟨fs, k, hf, F⟩⟩
  refine ⟨xs, h1, ⟨by rw [h.1, h1], fun i x hx => ?_⟩, fun i x row hx hr => ?_⟩
  · obtain ⟨row, t, _, e2, e3, _⟩ := h2 i x hx
    exact ⟨t, e2, e3⟩
  · obtain ⟨row', t, e1, _, _, e4⟩ := h2 i x hx
    rw [hr] at e1
    cases e1
    exact e4
def BareQ (n : Nat) (ds : List Wd) (gs : List Go) : Prop := (∀ r ∈ rowsW n ds, ∃ x ∈ r, x ≠ 0) ∧ (∀ (i j : Nat) (ri rj fs : List Int) (k k' : Nat) (g g' : Int), i < j → (rowsW n ds)[i]? = some ri → (rowsW n ds)[j]? = some rj → Frm ri fs k g → Frm rj fs k' g' → False) ∧ ∀ i, n ≤ i → i < n + ds.length → Rch n ds gs i
def spIsBare (K : PySem.W.Frag) : Sp := fun vs H Q _ => ∃ (x dl gl : Addr) (n : Nat) (us : List V) (ds : List Wd) (os : List V) (gs : List Go), vs = [.ref x] ∧ WbK K H x dl gl n us ds os gs ∧ FW4 n ds gs ∧ (∀ r ∈ rowsW n ds, ∀ y ∈ r, y.natAbs < 2 ^ 4000) ∧
  ∀ (b : Bool) H', Same H H' → (b = true ↔ BareQ n ds gs) → Q (.bl b) H'
theorem Frm.nz {row fs : List Int} {k : Nat} {g : Int} (h : Frm row fs k g) : g ≠ 0 ∧ ∃ x ∈ row, x ≠ 0 := by
  have g0 : g ≠ 0 := by rcases h.sg with z | z <;> rw [z] <;> decide
  obtain ⟨x, hx, hx1⟩ := h.od
  refine ⟨g0, g * 2 ^ k * x, ?_, ?_⟩
  · rw [h.eq]
    exact List.mem_map.mpr ⟨x, hx, rfl⟩
  · have p := pow_pos2 k
    exact Int.mul_ne_zero (Int.mul_ne_zero g0 (Int.ne_of_gt p)) (fun z => by rw [z] at hx1; cases hx1)
end L2
set_option Elab.async false
set_option linter.all false
set_option maxRecDepth 100000
set_option maxHeartbeats 1000000
namespace L2
open PySem PySem.Spec PyProof.Rows
theorem same_form {one other fs : List Int} {k j : Nat} {g s : Int} (F : Frm one fs k g) (G : Frm other fs j s) {i : Nat} {x y : Int} (hx : one[i]? = some x) (hy : other[i]? = some y) : ∃ f, fs[i]? = some f ∧ x = g * 2 ^ k * f ∧ y = s * 2 ^ j * f := by
  have hx' := hx
  rw [F.eq] at hx'
  unfold mulR at hx'
  rw [List.getElem?_map] at hx'
  obtain ⟨f, hf, e1⟩ := Option.map_eq_some_iff.mp hx'
  have hy' := hy
  rw [G.eq] at hy'
  unfold mulR at hy'
  rw [List.getElem?_map, hf] at hy'
  exact ⟨f, hf, e1.symm, (Option.some.inj hy').symm⟩
theorem same_prod {one other fs : List Int} {k j : Nat} {g s : Int} (F : Frm one fs k g) (G : Frm other fs j s) {i i' : Nat} {x y u v : Int} (hx : one[i]? = some x) (hy : other[i]? = some y) (hu : one[i']? = some u) (hv : other[i']? = some v) : u * y = v * x := by
  obtain ⟨f, _, e1, e2⟩ := same_form F G hx hy
  obtain ⟨f', _, e3, e4⟩ := same_form F G hu hv
  rw [e1, e2, e3, e4]
  generalize g * 2 ^ k = A
  generalize s * 2 ^ j = B
  ac_rfl
theorem same_nz {one other fs : List Int} {k j : Nat} {g s : Int} (F : Frm one fs k g) (G : Frm other fs j s) {i : Nat} {x y : Int} (hx : one[i]? = some x) (hy : other[i]? = some y) (x0 : x ≠ 0) : y ≠ 0 ∧ coreN x = coreN y := by
  obtain ⟨f, _, e1, e2⟩ := same_form F G hx hy
  have f0 : f ≠ 0 := fun z => x0 (by rw [e1, z, Int.mul_zero])
  obtain ⟨c1, c2, a, c3, c4, c5, c6⟩ := core_props f0
  have key : ∀ (g : Int) (k : Nat), (g = 1 ∨ g = -1) → coreN (g * 2 ^ k * f) = coreN f ∧ g * 2 ^ k * f ≠ 0 := fun g k hg => by
    have e : g * 2 ^ k * f = coreN f * 2 ^ (k + a) * (g * sgN f) := by
      conv => lhs; rw [← c4]
      rw [Int.pow_add]
      ac_rfl
    rw [e]
    exact core_made (by omega) c2 (by rcases hg with z | z <;> rcases c5 with y | y <;> rw [z, y] <;> decide)
  rw [e1, e2, (key g k F.sg).1, (key s j G.sg).1]
  exact ⟨(key s j G.sg).2, rfl⟩
def spLikeE : Sp := fun vs H Q _ => ∃ (l m : Addr) (one other : List Int), vs = [.ref l, .ref m] ∧ H l = some (.lst (one.map V.int)) ∧ H m = some (.lst (other.map V.int)) ∧ one.length = other.length ∧ one.length ≤ 12 ∧ (∀ x ∈ one, x.natAbs < 2 ^ 9000) ∧ (∀ x ∈ other, x.natAbs < 2 ^ 9000) ∧ (¬ ∀ x ∈ one, x = 0) ∧
  ∀ b H', Same H H' → (b = true → LikeR one other) → (∀ (fs : List Int) (k j : Nat) (g s : Int), Frm one fs k g → Frm other fs j s → b = true) → Q (.bl b) H'
section
variable {K : PySem.W.Frag} {σ : St} {H : Hp} {Q : VK} {cs : List Nat} {te : TE}
theorem comp_bool {v : Addr} {us : List V} {xs : List (List Int)} (Bb : List Int → Bool → Prop) (hv : H v = some (.lst us)) (ul : us.length = xs.length) (hx : ∀ (i : Nat) x, xs[i]? = some x → ∃ p, us[i]? = some (.ref p) ∧ H p = some (.lst (x.map V.int))) (hz : xs.length ≤ 1000)
    (hb : ∀ (i : Nat) p x H' (R : VK), xs[i]? = some x → H' p = some (.lst (x.map V.int)) → Same H H' → (∀ b H5, Same H' H5 → Bb x b → R (.bl b) H5) → te (some (.ref p) :: capV cs σ) H' R)
    (hd : ∀ acc (bs : List Bool) H', H acc = none → Same H H' → H' acc = some (.lst (bs.map V.bl)) → bs.length = xs.length → (∀ (i : Nat) b x, bs[i]? = some b → xs[i]? = some x → Bb x b) → Q (.ref acc) H') :
    CompIt (Itl K v) 1 cs (gName 0) tYes te σ H Q := by
  refine comp_any us.length (fun acc i ys H' => ∃ bs : List Bool, Same H H' ∧ H' acc = some (.lst ys) ∧ ys = bs.map V.bl ∧ bs.length = i ∧ ∀ (i : Nat) b x, bs[i]? = some b → xs[i]? = some x → Bb x b) (le_size (by omega)) ?_ ?_ ?_ ?_ ?_ ?_
  · rintro acc i ys H' hi ⟨_, s, _⟩
    exact ⟨us, us[i], SqL.of (s _ _ hv), List.getElem?_eq_getElem hi⟩
  · rintro acc ys H' ⟨_, s, _⟩
    exact ⟨us, SqL.of (s _ _ hv), Nat.le_refl _⟩
  · intro acc ha
    exact ⟨[], same_new ha _, upd_same, rfl, rfl, fun i b x h => by simp at h⟩
  · rintro acc i ys H' ⟨bs, s, ha, rfl, e, _⟩
    exact ⟨ha, by rw [List.length_map, e]; exact Nat.le_refl _⟩
  · rintro acc i ys H' ts x H2 N hn hi ⟨bs, s, ha, rfl, e, hB⟩ ⟨rfl, hx'⟩ hts hN
    have hx' := hx' us (SqL.of (s _ _ hv))
    obtain ⟨t0, rfl⟩ : ∃ t0, ts = [t0] := List.length_eq_one_iff.mp hts
    have hiL : i < xs.length := by rw [← ul]; exact hi
    have hSi : xs[i]? = some xs[i] := List.getElem?_eq_getElem hiL
    obtain ⟨p, hy1, hy2⟩ := hx i _ hSi
    rw [hx'] at hy1
    cases hy1
    rw [w_gName, w_yes, if_pos rfl]
    refine hb i p _ _ _ hSi (s _ _ hy2) s fun b H5 s5 hb5 => ?_
    refine ⟨s5 _ _ ha, hN _ [_] _ rfl ⟨bs ++ [b], same_upd hn (s.trans s5), upd_same, by rw [List.map_append]; rfl, by rw [List.length_append, e]; rfl, fun k b' x' hb' hx2 => ?_⟩⟩
    rcases get_snoc hb' with ⟨_, z⟩ | ⟨kl, rfl⟩
    · exact hB k b' x' z hx2
    · rw [kl, e, hSi] at hx2
      cases hx2
      exact hb5
  · rintro acc ys H' hn ⟨bs, s, ha, rfl, e, hB⟩
    exact hd acc bs H' hn s ha (by rw [e, ul]) hB
end
theorem inV_bl : ∀ bs : List Bool, inV (.bl true) (bs.map V.bl) = bs.any id
  | [] => rfl
  | b :: bs => by
    have ih := inV_bl bs
    unfold inV at ih ⊢
    rw [List.map_cons, List.any_cons, List.any_cons, ih]
    cases b <;> rfl
theorem flat_bl : ∀ bs : List Bool, (bs.map V.bl).all flatV = true
  | [] => rfl
  | b :: bs => by rw [List.map_cons, List.all_cons, flat_bl bs]; rfl
def SameF (one other : List Int) : Prop := ∃ (fs : List Int) (k j : Nat) (g s : Int), Frm one fs k g ∧ Frm other fs j s
theorem like_same {one other : List Int} (hl : one.length = other.length) (h : LikeR one other) : SameF one other := by
  have h' := h
  obtain ⟨i, x, y, hi, x0, hy, y0, _⟩ := h'
  obtain ⟨fs, k, g, F⟩ := frm_ex (row := one) fun z => x0 (z x (List.mem_of_getElem? hi))
  obtain ⟨gs, j, s, G⟩ := frm_ex (row := other) fun z => y0 (z y (List.mem_of_getElem? hy))
  have e := like_form hl h F G
  subst e
  exact ⟨fs, k, j, g, s, F, G⟩
end L2
set_option Elab.async false
set_option linter.all false
set_option maxRecDepth 100000
set_option maxHeartbeats 1000000
namespace L2
open PySem PySem.Spec PyProof.Rows
def NewL (R : List (List Int)) (line : List Int) : Prop := (∃ x ∈ line, x ≠ 0) ∧ ∀ r ∈ R, ¬ SameF line r
def BareR (n : Nat) (ds : List Wd) : Prop := (∀ r ∈ rowsW n ds, ∃ x ∈ r, x ≠ 0) ∧ ∀ (i j : Nat) (ri rj fs : List Int) (k k' : Nat) (g g' : Int), i < j → (rowsW n ds)[i]? = some ri → (rowsW n ds)[j]? = some rj → Frm ri fs k g → Frm rj fs k' g' → False
theorem bareQ_iff {n : Nat} {ds : List Wd} {gs : List Go} : BareQ n ds gs ↔ BareR n ds ∧ ∀ i, n ≤ i → i < n + ds.length → Rch n ds gs i :=
  ⟨fun ⟨a, b, c⟩ => ⟨⟨a, b⟩, c⟩, fun ⟨⟨a, b⟩, c⟩ => ⟨a, b, c⟩⟩
theorem unit_at28 {n i k : Nat} (hk : k < n) : (unitRow n i)[k]? = some (if k = i then 1 else 0) := by
  unfold unitRow
  rw [List.getElem?_map, List.getElem?_range hk]
  rfl
theorem rowsW_nil_at {n i : Nat} {r : List Int} (h : (rowsW n [])[i]? = some r) : i < n ∧ r = unitRow n i := by
  have h' : ((List.range n).map (unitRow n))[i]? = some r := h
  rw [List.getElem?_map] at h'
  obtain ⟨k, hk, e⟩ := Option.map_eq_some_iff.mp h'
  obtain ⟨h1, h2⟩ := List.getElem?_eq_some_iff.mp hk
  rw [List.getElem_range] at h2
  rw [List.length_range] at h1
  subst h2
  exact ⟨h1, e.symm⟩
theorem bareR_nil (n : Nat) : BareR n [] := by
  refine ⟨fun r hr => ?_, fun i j ri rj fs k k' g g' hij hi hj F G => ?_⟩
  · obtain ⟨i, hi⟩ := List.getElem?_of_mem hr
    obtain ⟨h1, rfl⟩ := rowsW_nil_at hi
    have := unit_at28 (i := i) h1
    rw [if_pos rfl] at this
    exact ⟨1, List.mem_of_getElem? this, by decide⟩
  · obtain ⟨h1, rfl⟩ := rowsW_nil_at hi
    obtain ⟨h2, rfl⟩ := rowsW_nil_at hj
    have a := unit_at28 (i := i) h1
    have b := unit_at28 (i := j) h1
    rw [if_pos rfl] at a
    rw [if_neg (by omega)] at b
    exact (same_nz F G a b (by decide)).1 rfl
theorem bareR_pre {n : Nat} {ds es : List Wd} (h : BareR n (ds ++ es)) : BareR n ds := by
  refine ⟨fun r hr => ?_, fun i j ri rj fs k k' g g' hij hi hj F G => h.2 i j ri rj fs k k' g g' hij (rowsW_pre n ds es hi) (rowsW_pre n ds es hj) F G⟩
  obtain ⟨i, hi⟩ := List.getElem?_of_mem hr
  exact h.1 r (List.mem_of_getElem? (rowsW_pre n ds es hi))
theorem bareR_snoc {n : Nat} {ds : List Wd} {d : Wd} : BareR n (ds ++ [d]) ↔ BareR n ds ∧ NewL (rowsW n ds) (rowD (rowsW n ds) d) := by
  have el : (rowsW n (ds ++ [d]))[(rowsW n ds).length]? = some (rowD (rowsW n ds) d) := by rw [rowsW_snoc, List.getElem?_append_right (Nat.le_refl _), Nat.sub_self]; rfl
  constructor
  · intro h
    refine ⟨bareR_pre h, h.1 _ (List.mem_of_getElem? el), fun r hr ⟨fs, k, j, g, s, F, G⟩ => ?_⟩
    obtain ⟨i, hi⟩ := List.getElem?_of_mem hr
    exact h.2 i _ _ _ fs _ _ _ _ (List.getElem?_eq_some_iff.mp hi).1 (rowsW_pre n ds [d] hi) el G F
  · rintro ⟨h, hz, hn⟩
    refine ⟨fun r hr => ?_, fun i j ri rj fs k k' g g' hij hi hj F G => ?_⟩
    · rw [rowsW_snoc] at hr
      rcases List.mem_append.mp hr with z | z
      · exact h.1 r z
      · rw [List.mem_singleton.mp z]; exact hz
    · rw [rowsW_snoc] at hi hj
      rcases get_snoc hj with ⟨a, z⟩ | ⟨a, rfl⟩
      · rw [List.getElem?_append_left (by omega)] at hi
        exact h.2 i j ri rj fs k k' g g' hij hi z F G
      · rw [List.getElem?_append_left (by omega)] at hi
        exact hn ri (List.mem_of_getElem? hi) ⟨fs, k', k, g', g, G, F⟩
theorem take_snoc {α : Type} {ds : List α} {k : Nat} {d : α} (h : ds[k]? = some d) : ds.take (k + 1) = ds.take k ++ [d] := by
  rw [List.take_succ, h]
  rfl
theorem rowsW_part {n : Nat} {ds : List Wd} (i : Nat) {j : Nat} {r : List Int} (h : (rowsW n (ds.take i))[j]? = some r) : (rowsW n ds)[j]? = some r := by
  have := rowsW_pre n (ds.take i) (ds.drop i) h
  rwa [List.take_append_drop] at this
theorem rowsW_partM {n : Nat} {ds : List Wd} (i : Nat) {r : List Int} (h : r ∈ rowsW n (ds.take i)) : r ∈ rowsW n ds := by
  obtain ⟨j, hj⟩ := List.getElem?_of_mem h
  exact List.mem_of_getElem? (rowsW_part i hj)
theorem rowsW_partD {n : Nat} {ds : List Wd} {i j : Nat} (hi : i ≤ ds.length) (hj : j < n + i) : (rowsW n (ds.take i)).getD j [] = (rowsW n ds).getD j [] := by
  have e := List.getElem?_eq_getElem (l := rowsW n (ds.take i)) (i := j) (by rw [rowsW_len, List.length_take]; omega)
  rw [getD_of e, getD_of (rowsW_part i e)]
structure Met (n : Nat) (ds : List Wd) (gs : List Go) (i : Nat) (ms : List Nat) : Prop where
  snd : ∀ m ∈ ms, Rch n ds gs m
  root : ∀ g ∈ gs, g.sg ≠ 0 → g.th ∈ ms
  cl : ∀ (k : Nat) d, ds.length ≤ k + i → ds[k]? = some d → d.a ∈ ms ∧ d.b ∈ ms
  all : ∀ k, ds.length ≤ k + i → k < ds.length → Rch n ds gs (n + k)
theorem met_nil {n : Nat} {ds : List Wd} {gs : List Go} : Met n ds gs 0 ((gs.filter fun g => decide (g.sg ≠ 0)).map (·.th)) := by
  refine ⟨fun m hm => ?_, fun g hg h => List.mem_map.mpr ⟨g, List.mem_filter.mpr ⟨hg, decide_eq_true h⟩, rfl⟩, fun k d h1 h2 => ?_, fun k h1 h2 => by omega⟩
  · obtain ⟨g, hg, rfl⟩ := List.mem_map.mp hm
    obtain ⟨h1, h2⟩ := List.mem_filter.mp hg
    exact .root h1 (of_decide_eq_true h2)
  · have := (List.getElem?_eq_some_iff.mp h2).1
    omega
theorem met_not {n : Nat} {ds : List Wd} {gs : List Go} {i : Nat} {ms : List Nat} (M : Met n ds gs i ms) (dk : ∀ (k : Nat) (d : Wd), ds[k]? = some d → d.a < n + k ∧ d.b < n + k ∧ (d.w = "sum" ∨ d.w = "less")) {k : Nat} (hk : k + 1 + i = ds.length) (h : n + k ∉ ms) : ¬ Rch n ds gs (n + k) := by
  intro R
  generalize hx : n + k = x at R h
  cases R with
  | root h1 h2 => exact h (M.root _ h1 h2)
  | @fst k' d h1 h2 =>
    have := (dk k' d h1).1
    exact h (M.cl k' d (by omega) h1).1
  | @snd k' d h1 h2 =>
    have := (dk k' d h1).2.1
    exact h (M.cl k' d (by omega) h1).2
theorem met_step {n : Nat} {ds : List Wd} {gs : List Go} {i : Nat} {ms : List Nat} (M : Met n ds gs i ms) {k : Nat} {d : Wd} (hk : k + 1 + i = ds.length) (hd : ds[k]? = some d) (h : n + k ∈ ms) : Met n ds gs (i + 1) (ms ++ [d.a, d.b]) := by
  have R := M.snd _ h
  refine ⟨fun m hm => ?_, fun g hg h => List.mem_append_left _ (M.root g hg h), fun k' d' h1 h2 => ?_, fun k' h1 h2 => ?_⟩
  · rcases List.mem_append.mp hm with z | z
    · exact M.snd m z
    · simp only [List.mem_cons, List.not_mem_nil, or_false] at z
      rcases z with z | z <;> subst z
      · exact .fst hd R
      · exact .snd hd R
  · by_cases c : k' = k
    · subst c
      rw [hd] at h2
      cases h2
      exact ⟨List.mem_append_right _ (by simp), List.mem_append_right _ (by simp)⟩
    · obtain ⟨a, b⟩ := M.cl k' d' (by omega) h2
      exact ⟨List.mem_append_left _ a, List.mem_append_left _ b⟩
  · by_cases c : k' = k
    · subst c; exact R
    · exact M.all k' (by omega) h2
theorem last_rch {n : Nat} {ds : List Wd} {gs : List Go} (hl : ∀ (k : Nat) (d : Wd), ds[k]? = some d → d.a = n + k - 1 ∨ d.b = n + k - 1) (hg : ∃ g ∈ gs, g.sg ≠ 0 ∧ g.th = n + ds.length - 1) (n1 : 1 ≤ n) : ∀ i, n ≤ i → i < n + ds.length → Rch n ds gs i := by
  have key : ∀ m : Nat, m + 1 ≤ ds.length → Rch n ds gs (n + (ds.length - 1 - m)) := by
    intro m
    induction m with
    | zero =>
      intro h
      obtain ⟨g, h1, h2, h3⟩ := hg
      rw [show n + (ds.length - 1 - 0) = g.th by omega]
      exact .root h1 h2
    | succ m ih =>
      intro h
      have R := ih (by omega)
      have ed := List.getElem?_eq_getElem (l := ds) (i := ds.length - 1 - m) (by omega)
      rcases hl _ _ ed with z | z
      · rw [show n + (ds.length - 1 - (m + 1)) = (ds[ds.length - 1 - m]).a by omega]
        exact .fst ed R
      · rw [show n + (ds.length - 1 - (m + 1)) = (ds[ds.length - 1 - m]).b by omega]
        exact .snd ed R
  intro i h1 h2
  have := key (n + ds.length - 1 - i) (by omega)
  rwa [show n + (ds.length - 1 - (n + ds.length - 1 - i)) = i by omega] at this
theorem FWeb.more {n : Nat} {ds : List Wd} {gs : List Go} (F : FWeb n ds gs) {d : Wd} (hw : d.w = "sum" ∨ d.w = "less") (ha : d.a < n + ds.length) (hb : d.b < n + ds.length) (sa : Sh d.s ((rowsW n ds).getD d.a [])) (sb : Sh d.t ((rowsW n ds).getD d.b [])) (hl : ds.length < 60) : FWeb n (ds ++ [d]) gs := by
  have lr := rowsW_len n ds
  obtain ⟨b1, b2⟩ := rowD_bound (d := d) (k := ds.length) F.rb F.wd (by omega) (by omega) sa.1 sa.2.1 sb.1 sb.2.1
  have e1 : (ds ++ [d]).length = ds.length + 1 := by simp
  refine ⟨⟨F.ok.i1, F.ok.i2, fun k e he => ?_, fun g hg => by have := F.ok.gk g hg; omega, by omega, F.ok.gl⟩, F.sh.snoc ha hb sa sb, fun g hg => ?_, ?_, fun r hr => ?_⟩
  · rcases get_snoc he with ⟨hk, z⟩ | ⟨hk, rfl⟩
    · exact F.ok.dk k e z
    · rw [hk]; exact ⟨ha, hb, hw⟩
  · rw [rows_stay n ds d (F.ok.gk g hg)]
    exact F.go g hg
  · rw [rowsW_snoc, e1]
    exact F.rb.snoc (by omega) (by have := F.ok.i2; omega) b2
  · rw [rowsW_snoc] at hr
    rcases List.mem_append.mp hr with z | z
    · exact F.wd r z
    · rw [List.mem_singleton.mp z]; exact b1
theorem FWeb.goals {n : Nat} {ds : List Wd} {gs hs : List Go} (F : FWeb n ds gs) (hl : hs.length ≤ 12) (h : ∀ g ∈ hs, g.th < n + ds.length ∧ (g = ⟨0, 0, 0⟩ ∨ ((g.sg = 1 ∨ g.sg = -1) ∧ Sh g.sh ((rowsW n ds).getD g.th [])))) : FWeb n ds hs :=
  ⟨⟨F.ok.i1, F.ok.i2, F.ok.dk, fun g hg => (h g hg).1, F.ok.dl, hl⟩, F.sh, fun g hg => (h g hg).2, F.rb, F.wd⟩
theorem Sh.zero (r : List Int) : Sh 0 r := ⟨by decide, by decide, fun z => absurd z (by decide)⟩
theorem Sh.up28 {s : Int} (r : List Int) (h0 : 0 ≤ s) (h1 : s ≤ 40) : Sh s r := ⟨by omega, h1, fun z => by omega⟩
theorem FWeb.small {n : Nat} {ds : List Wd} {gs : List Go} (F : FWeb n ds gs) : ∀ r ∈ rowsW n ds, ∀ y ∈ r, y.natAbs < 2 ^ 4000 := fun r hr y hy => by
  refine Nat.lt_of_le_of_lt ((F.rb r hr).2 y hy) ?_
  have := F.ok.dl
  exact Nat.pow_lt_pow_right (by decide) (by omega)
theorem FI.app2 {H : Hp} {p : Addr} {ins : Nat} {tb dl : Addr} {k : Nat} {vs us : List V} {ds : List Wd} {H1 : Hp} (h : FI H p ins tb dl k vs us ds H1) (hi : ins ≤ 12) {d : Wd} {x l : Addr} (hx : H1 x = some (.tup (wTup d)))
    (hl : H1 l = some (.lst ((rowD (rowsW ins ds) d).map V.int))) (ld : l ≠ dl) (lt : l ≠ tb) (lp : l ≠ p) (h1 : d.a < ins + k) (h2 : d.b < ins + k) (hw : d.w = "sum" ∨ d.w = "less")
    (h3 : Sh d.s ((rowsW ins ds).getD d.a [])) (h4 : Sh d.t ((rowsW ins ds).getD d.b [])) :
    FI H p ins tb dl (k + 1) (vs ++ [.ref l]) (us ++ [.ref x]) (ds ++ [d]) (upd (upd H1 dl (.lst (us ++ [.ref x]))) tb (.lst (vs ++ [.ref l]))) := by
  have wi := h.wi
  have t2 : (upd H1 dl (.lst (us ++ [.ref x]))) tb = some (.lst vs) := by rw [upd_ne wi.td]; exact wi.tbl
  have l2 : (upd H1 dl (.lst (us ++ [.ref x]))) l = some (.lst ((rowD (rowsW ins ds) d).map V.int)) := by rw [upd_ne ld]; exact hl
  have r2 : HRs (upd H1 dl (.lst (us ++ [.ref x]))) [dl, tb, p] vs (rowsW ins ds) := wi.hrs.chg (l := dl) (by simp) (Chg.upd _)
  have nx : x ≠ dl := ne_of hx wi.dll (by intro z; cases z)
  have hd2 : HTs wTup (upd H1 dl (.lst (us ++ [.ref x]))) (us ++ [.ref x]) (ds ++ [d]) := (wi.hds.chgL wi.dll (Chg.upd _)).snoc (by rw [upd_ne nx]; exact hx)
  have hd3 := hd2.chgL t2 (Chg.upd (.lst (vs ++ [.ref l])))
  have dlen : (ds ++ [d]).length = k + 1 := by simp [wi.dlen]
  have lr := wi.rl
  obtain ⟨hr, hb⟩ := rowD_bound (d := d) wi.rb wi.rw_ (by omega) (by omega) h3.1 h3.2.1 h4.1 h4.2.1
  refine ⟨⟨upd_same, ?_, ?_, ?_, ?_, ?_, hd3, dlen, fun j e he => ?_, ?_, wi.ntb, wi.ndl, wi.tp, wi.dp, wi.td⟩, h.sh.snoc (by rw [wi.dlen]; exact h1) (by rw [wi.dlen]; exact h2) h3 h4⟩
  · rw [rowsW_snoc]
    refine (r2.chg (l := tb) (by simp) (Chg.upd _)).snoc (by rw [upd_ne lt]; exact l2) fun e he => ?_
    simp only [List.mem_cons, List.not_mem_nil, or_false] at he
    rcases he with z | z | z <;> subst z <;> assumption
  · rw [rowsW_len, dlen]
  · rw [rowsW_snoc]
    exact wi.rb.snoc (by omega) (by omega) hb
  · intro q hq
    rw [rowsW_snoc] at hq
    rcases List.mem_append.mp hq with z | z
    · exact wi.rw_ q z
    · rw [List.mem_singleton.mp z]; exact hr
  · rw [upd_ne wi.td.symm]; exact upd_same
  · rcases get_snoc he with ⟨hj, z⟩ | ⟨hj, rfl⟩
    · exact wi.dk j e z
    · rw [hj, wi.dlen]; exact ⟨h1, h2, hw⟩
  · exact Chg.updN (wi.chg.updN wi.ndl) wi.ntb
theorem wait0_mapI : ∀ gs : List Go, (gs.filterMap fun g => if g.sg ≠ 0 then some (g.th : Int) else none) = nints (wait0 gs)
  | [] => rfl
  | g :: gs => by
    have ih := wait0_mapI gs
    unfold nints wait0 at ih ⊢
    rw [List.filterMap_cons]
    by_cases z : g.sg ≠ 0
    · rw [if_pos z, ih, List.filter_cons_of_pos (by simpa using z)]; rfl
    · rw [if_neg z, ih, List.filter_cons_of_neg (by simpa using z)]
theorem hts1 {α : Type} {f : α → List V} {H : Hp} {t : Addr} {x : α} (h : H t = some (.tup (f x))) : HTs f H [.ref t] [x] := ⟨rfl, fun k y hy => by
  cases k with
  | zero => cases hy; exact ⟨t, rfl, h⟩
  | succ k => simp at hy⟩
def spMv28 : Sp := fun vs H Q _ => ∃ (l : Addr) (row : List Int) (sh : Int), vs = [.ref l, .int sh] ∧ H l = some (.lst (row.map V.int)) ∧ row.length ≤ 100 ∧ -4000 ≤ sh ∧ sh ≤ 4000 ∧ (∀ n ∈ row, n.natAbs < 2 ^ 9000) ∧
  ∀ m H', H m = none → Same H H' → H' m = some (.lst ((row.map (mvI sh)).map V.int)) → Q (.ref m) H'
def spCome28 : Sp := fun vs H Q _ => ∃ (tb x : Addr) (ts : List V) (ex : List Addr) (rs : List (List Int)) (d : Wd), vs = [.ref tb, .ref x] ∧ H tb = some (.lst ts) ∧ HRs H ex ts rs ∧ H x = some (.tup (wTup d)) ∧ (d.w = "sum" ∨ d.w = "less") ∧ d.a < rs.length ∧ d.b < rs.length ∧ Sh4 d.s (rs.getD d.a []) ∧ Sh4 d.t (rs.getD d.b []) ∧ (rs.getD d.a []).length = (rs.getD d.b []).length ∧ (∀ r ∈ rs, r.length ≤ 12 ∧ ∀ n ∈ r, n.natAbs < 2 ^ 9000) ∧
  ∀ r H', H r = none → Same H H' → H' r = some (.lst ((rowD rs d).map V.int)) → Q (.ref r) H'
def spNew28 : Sp := fun vs H Q _ => ∃ (tb l : Addr) (ts : List V) (ex : List Addr) (rs : List (List Int)) (row : List Int), vs = [.ref tb, .ref l] ∧ H tb = some (.lst ts) ∧ HRs H ex ts rs ∧ H l = some (.lst (row.map V.int)) ∧ row.length ≤ 12 ∧ rs.length ≤ 100 ∧ (∀ r ∈ rs, r.length = row.length ∧ ∀ n ∈ r, n.natAbs < 2 ^ 9000) ∧ (∀ n ∈ row, n.natAbs < 2 ^ 9000) ∧
  ∀ (b : Bool) H', Same H H' → (b = true ↔ (∃ x ∈ row, x ≠ 0) ∧ ∀ r ∈ rs, ¬ SameF row r) → Q (.bl b) H'
def spDeed28 (K : PySem.W.Frag) : Sp := fun vs H Q _ => ∃ (p a tb : Addr) (ns : List Int) (c : Int) (ts : List V) (ex : List Addr) (rs : List (List Int)) (fi : Nat), vs = [.ref p, .ref tb, .int fi] ∧ LPen H p a c ∧ Scr K H a ns ∧ ns.length ≤ 63 ∧ c ≤ 90000000 ∧ H tb = some (.lst ts) ∧ HRs H ex ts rs ∧ p ∈ ex ∧ tb ≠ p ∧ fi < rs.length ∧ rs.length ≤ 100 ∧ (∀ r ∈ rs, r.length ≤ 12) ∧
  ∀ (x : Addr) (d : Wd) H', H x = none → H' x = some (.tup (wTup d)) → (d.w = "sum" ∨ d.w = "less") → d.a < rs.length → d.b < rs.length → (d.a = fi ∨ d.b = fi) → Sh d.s (rs.getD d.a []) → Sh d.t (rs.getD d.b []) → LPen H' p a (c + 1000) → Scr K H' a ns → Chg p H H' → Q (.ref x) H'
def spBuilt (K : PySem.W.Frag) : Sp := fun vs H Q _ => ∃ (p a : Addr) (ns : List Int) (c : Int), vs = [.ref p] ∧ LPen H p a c ∧ Scr K H a ns ∧ ns.length ≤ 63 ∧ c ≤ 1000000 ∧
  ∀ (l w dl gl tb : Addr) (ins : Nat) (us : List V) (ds : List Wd) (os : List V) (gs : List Go) (ts : List V) H', H' l = some (.lst [.ref w, .ref tb]) → Wb H' w dl gl ins us ds os gs → FWeb ins ds gs → ds.length ≤ 40 → gs.length ≤ 3 → H' tb = some (.lst ts) → HRs H' [p] ts (rowsW ins ds) → BareQ ins ds gs → dl ≠ p → gl ≠ p → tb ≠ p → l ≠ p → LPen H' p a (c + 100000) → Scr K H' a ns → Chg p H H' → Q (.ref l) H'
def spBent28 (K : PySem.W.Frag) : Sp := fun vs H Q _ => ∃ (p a w dl gl tb : Addr) (ns : List Int) (c : Int) (ins : Nat) (us : List V) (ds : List Wd) (os : List V) (gs : List Go) (ts : List V), vs = [.ref p, .ref w, .ref tb] ∧ LPen H p a c ∧ Scr K H a ns ∧ ns.length ≤ 63 ∧ c ≤ 1000000 ∧ Wb H w dl gl ins us ds os gs ∧ FWeb ins ds gs ∧ ds.length ≤ 40 ∧ gs.length ≤ 3 ∧ H tb = some (.lst ts) ∧ HRs H [p] ts (rowsW ins ds) ∧ dl ≠ p ∧ gl ≠ p ∧ tb ≠ p ∧
  ∀ (w' dl' gl' : Addr) (us' : List V) (ds' : List Wd) (os' : List V) (gs' : List Go) H', Wb H' w' dl' gl' ins us' ds' os' gs' → FWeb ins ds' gs' → dl' ≠ p → gl' ≠ p → LPen H' p a (c + 100000) → Scr K H' a ns → Chg p H H' → Q (.ref w') H'
def spAny28 (K : PySem.W.Frag) : Sp := fun vs H Q _ => ∃ (p a : Addr) (ns : List Int) (c : Int), vs = [.ref p] ∧ LPen H p a c ∧ Scr K H a ns ∧ ns.length ≤ 63 ∧ c ≤ 1000000 ∧
  ∀ (w dl gl : Addr) (ins : Nat) (us : List V) (ds : List Wd) (os : List V) (gs : List Go) H', Wb H' w dl gl ins us ds os gs → FWeb ins ds gs → dl ≠ p → gl ≠ p → LPen H' p a (c + 100000) → Scr K H' a ns → Chg p H H' → Q (.ref w) H'
def spDue28 : Sp := fun vs H Q _ => ∃ (x dl gl : Addr) (n : Nat) (us : List V) (ds : List Wd) (os : List V) (gs : List Go), vs = [.ref x] ∧ Wb H x dl gl n us ds os gs ∧ FWeb n ds gs ∧
  ∀ (b : Bool) H', Same H H' → (b = true ↔ BareQ n ds gs) → Q (.bl b) H'
end L2
set_option Elab.async false
set_option linter.all false
set_option maxRecDepth 100000
set_option maxHeartbeats 1000000
namespace L2
open PySem PySem.Spec PyProof.Rows
section
variable {ins : Nat} {ds : List Wd} {gs : List Go} {bs : List Bool}
end
section
variable {ins : Nat} {ds : List Wd} {gs : List Go} {bs : List Bool}
end
section
variable {ins : Nat} {ds : List Wd} {gs : List Go} {bs : List Bool}
end
section
variable {ins : Nat} {ds : List Wd} {gs : List Go} {bs : List Bool}
end
section
variable {n : Nat} {ds : List Wd} {gs : List Go} {bs : List Bool}
end
section
variable {n : Nat} {ds : List Wd} {gs : List Go} {bs : List Bool}
end
section
variable {n : Nat} {ds : List Wd} {gs : List Go} {bs : List Bool}
end
section
variable {n : Nat} {ds : List Wd} {gs : List Go} {bs : List Bool}
end
section
variable {n : Nat} {ds : List Wd} {gs : List Go} {bs : List Bool}
end
section
variable {n i : Nat} {R : List (List Int)} {kvs : List (List Key × V)} {es : List Wd}
end
section
variable {n i : Nat} {R : List (List Int)} {kvs : List (List Key × V)} {es : List Wd}
end
end L2
set_option Elab.async false
set_option linter.all false
set_option maxRecDepth 100000
set_option maxHeartbeats 1000000
namespace L2
open PySem PySem.Spec PyProof.Rows
def nm (ds : List Wd) : List Int := (rowsW 1 ds).map fun r => r.headD 0
end L2
end

section
set_option Elab.async false
set_option linter.all false
set_option maxRecDepth 100000
set_option maxHeartbeats 4000000
namespace Law
open PySem L2
def top (i : Nat) : Stmt := PySem.Challenge.pw_shiftsums_k28_which_webs_are_bare.main.body.getD i (.Pass ⟨0, 0, 0, 0⟩)
abbrev s_core : Stmt := top 1
theorem sc_core : FnScope ["number", "size", "shift", "sign"] ["number"] (defScope s_core) := ⟨rfl, rfl, rfl, by decide +kernel, rfl, by decide +kernel, by decide +kernel⟩
abbrev s_shifted : Stmt := top 2
theorem sc_shifted : FnScope ["number", "shift", "halved"] ["number", "shift"] (defScope s_shifted) := ⟨rfl, rfl, rfl, by decide +kernel, rfl, by decide +kernel, by decide +kernel⟩
abbrev s_shifted_row : Stmt := top 4
theorem sc_shifted_row : FnScope ["row", "shift"] ["row", "shift"] (defScope s_shifted_row) := ⟨rfl, rfl, rfl, by decide +kernel, rfl, by decide +kernel, by decide +kernel⟩
abbrev s_input_rows : Stmt := top 5
theorem sc_input_rows : FnScope ["ins"] ["ins"] (defScope s_input_rows) := ⟨rfl, rfl, rfl, by decide +kernel, rfl, by decide +kernel, by decide +kernel⟩
abbrev s_input_row : Stmt := top 6
theorem sc_input_row : FnScope ["ins", "thing"] ["ins", "thing"] (defScope s_input_row) := ⟨rfl, rfl, rfl, by decide +kernel, rfl, by decide +kernel, by decide +kernel⟩
abbrev s_deed_row : Stmt := top 7
theorem sc_deed_row : FnScope ["deed", "rows", "left", "right", "sign"] ["deed", "rows"] (defScope s_deed_row) := ⟨rfl, rfl, rfl, by decide +kernel, rfl, by decide +kernel, by decide +kernel⟩
abbrev s_second_sign : Stmt := top 8
theorem sc_second_sign : FnScope ["deed"] ["deed"] (defScope s_second_sign) := ⟨rfl, rfl, rfl, by decide +kernel, rfl, by decide +kernel, by decide +kernel⟩
abbrev s_numbers : Stmt := top 9
theorem sc_numbers : FnScope ["web", "rows", "deed"] ["web"] (defScope s_numbers) := ⟨rfl, rfl, rfl, by decide +kernel, rfl, by decide +kernel, by decide +kernel⟩
abbrev s_deed_arrows : Stmt := top 10
theorem sc_deed_arrows : FnScope ["web", "told", "place", "deed", "thing"] ["web"] (defScope s_deed_arrows) := ⟨rfl, rfl, rfl, by decide +kernel, rfl, by decide +kernel, by decide +kernel⟩
abbrev s_thing_count : Stmt := top 11
theorem sc_thing_count : FnScope ["web"] ["web"] (defScope s_thing_count) := ⟨rfl, rfl, rfl, by decide +kernel, rfl, by decide +kernel, by decide +kernel⟩
abbrev s_used : Stmt := top 13
theorem sc_used : FnScope ["web", "told", "thing", "shift", "sign", "start", "goal"] ["web"] (defScope s_used) := ⟨rfl, rfl, rfl, by decide +kernel, rfl, by decide +kernel, by decide +kernel⟩
abbrev s_form_of : Stmt := top 14
theorem sc_form_of : FnScope ["row", "cores", "shift", "sign"] ["row"] (defScope s_form_of) := ⟨rfl, rfl, rfl, by decide +kernel, rfl, by decide +kernel, by decide +kernel⟩
abbrev s_is_bare : Stmt := top 15
theorem sc_is_bare : FnScope ["web", "forms"] ["web"] (defScope s_is_bare) := ⟨rfl, rfl, rfl, by decide +kernel, rfl, by decide +kernel, by decide +kernel⟩
abbrev s_l_pen : Stmt := top 17
theorem sc_l_pen : FnScope ["_law_script"] ["_law_script"] (defScope s_l_pen) := ⟨rfl, rfl, rfl, by decide +kernel, rfl, by decide +kernel, by decide +kernel⟩
abbrev s_l_take : Stmt := top 18
theorem sc_l_take : FnScope ["_law_pen_here", "_law_many", "_law_script", "_law_at", "_law_left", "_law_cell", "_law_number"] ["_law_pen_here", "_law_many"] (defScope s_l_take) := ⟨rfl, rfl, rfl, by decide +kernel, rfl, by decide +kernel, by decide +kernel⟩
abbrev s_l_moved : Stmt := top 19
theorem sc_l_moved : FnScope ["_law_line", "_law_shift_here"] ["_law_line", "_law_shift_here"] (defScope s_l_moved) := ⟨rfl, rfl, rfl, by decide +kernel, rfl, by decide +kernel, by decide +kernel⟩
abbrev s_l_come : Stmt := top 20
theorem sc_l_come : FnScope ["_law_things_by", "_law_deed_here", "_law_by", "_law_first", "_law_second"] ["_law_things_by", "_law_deed_here"] (defScope s_l_come) := ⟨rfl, rfl, rfl, by decide +kernel, rfl, by decide +kernel, by decide +kernel⟩
abbrev s_l_odd : Stmt := top 21
theorem sc_l_odd : FnScope ["_law_number", "_law_far"] ["_law_number"] (defScope s_l_odd) := ⟨rfl, rfl, rfl, by decide +kernel, rfl, by decide +kernel, by decide +kernel⟩
abbrev s_l_like : Stmt := top 22
theorem sc_l_like : FnScope ["_law_one", "_law_other", "_law_at"] ["_law_one", "_law_other"] (defScope s_l_like) := ⟨rfl, rfl, rfl, by decide +kernel, rfl, by decide +kernel, by decide +kernel⟩
abbrev s_l_is_new : Stmt := top 23
theorem sc_l_is_new : FnScope ["_law_things_by", "_law_line"] ["_law_things_by", "_law_line"] (defScope s_l_is_new) := ⟨rfl, rfl, rfl, by decide +kernel, rfl, by decide +kernel, by decide +kernel⟩
abbrev s_l_shift : Stmt := top 24
theorem sc_l_shift : FnScope ["_law_pen_here", "_law_line", "_law_up", "_law_far"] ["_law_pen_here", "_law_line"] (defScope s_l_shift) := ⟨rfl, rfl, rfl, by decide +kernel, rfl, by decide +kernel, by decide +kernel⟩
abbrev s_l_deed : Stmt := top 25
theorem sc_l_deed : FnScope ["_law_pen_here", "_law_things_by", "_law_first", "_law_other", "_law_s", "_law_t", "_law_word"] ["_law_pen_here", "_law_things_by", "_law_first"] (defScope s_l_deed) := ⟨rfl, rfl, rfl, by decide +kernel, rfl, by decide +kernel, by decide +kernel⟩
abbrev s_l_built : Stmt := top 26
theorem sc_l_built : FnScope ["_law_pen_here", "_law_ins", "_law_things_by", "_law_deeds", "_law_k", "_law_deed_here", "_law_line", "_law_goals"] ["_law_pen_here"] (defScope s_l_built) := ⟨rfl, rfl, rfl, by decide +kernel, rfl, by decide +kernel, by decide +kernel⟩
abbrev s_l_bent : Stmt := top 27
theorem sc_l_bent : FnScope ["_law_pen_here", "_law_web", "_law_things_by", "_law_ins", "_law_deeds", "_law_goals", "_law_many", "_law_x", "_law_far", "_law_again", "_law_word", "_law_a", "_law_s", "_law_b", "_law_t", "_law_more", "_law_deed_here", "_law_way"] ["_law_pen_here", "_law_web", "_law_things_by"] (defScope s_l_bent) := ⟨rfl, rfl, rfl, by decide +kernel, rfl, by decide +kernel, by decide +kernel⟩
abbrev s_l_any : Stmt := top 28
theorem sc_l_any : FnScope ["_law_pen_here", "_law_ins", "_law_things_by", "_law_deeds", "_law_k", "_law_deed_here", "_law_goals", "_law_thing"] ["_law_pen_here"] (defScope s_l_any) := ⟨rfl, rfl, rfl, by decide +kernel, rfl, by decide +kernel, by decide +kernel⟩
abbrev s_l_due : Stmt := top 29
theorem sc_l_due : FnScope ["_law_web", "_law_ins", "_law_deeds", "_law_goals", "_law_things_by", "_law_deed_here", "_law_line", "_law_met", "_law_k"] ["_law_web"] (defScope s_l_due) := ⟨rfl, rfl, rfl, by decide +kernel, rfl, by decide +kernel, by decide +kernel⟩
abbrev s_law : Stmt := top 30
theorem sc_law : FnScope ["_law_script", "_law_pen_here", "_law_web", "_law_things_by", "_law_webs", "_law_one", "_law_handed", "_law_found"] ["_law_script"] (defScope s_law) := ⟨rfl, rfl, rfl, by decide +kernel, rfl, by decide +kernel, by decide +kernel⟩
structure Bl (mg : Str → Option Value) : Prop where
  abs : mg "abs" = none
  all : mg "all" = none
  any : mg "any" = none
  bool : mg "bool" = none
  enumerate : mg "enumerate" = none
  int : mg "int" = none
  isinstance : mg "isinstance" = none
  len : mg "len" = none
  list : mg "list" = none
  max : mg "max" = none
  min : mg "min" = none
  range : mg "range" = none
  reversed : mg "reversed" = none
  «set» : mg "set" = none
  tuple : mg "tuple" = none
  zip : mg "zip" = none
structure Txt (K : PySem.W.Frag) (mg : Str → Option Value) : Prop where
  bl : Bl mg
  t_core : ∃ (f : Addr) (fd : FuncData), Fun K "core" "core" s_core f fd ∧ mg "core" = some (.ref f) ∧ Binds K fd ["number"] []
  t_shifted : ∃ (f : Addr) (fd : FuncData), Fun K "shifted" "shifted" s_shifted f fd ∧ mg "shifted" = some (.ref f) ∧ Binds K fd ["number", "shift"] []
  t_shifted_row : ∃ (f : Addr) (fd : FuncData), Fun K "shifted_row" "shifted_row" s_shifted_row f fd ∧ mg "shifted_row" = some (.ref f) ∧ Binds K fd ["row", "shift"] []
  t_input_rows : ∃ (f : Addr) (fd : FuncData), Fun K "input_rows" "input_rows" s_input_rows f fd ∧ mg "input_rows" = some (.ref f) ∧ Binds K fd ["ins"] []
  t_input_row : ∃ (f : Addr) (fd : FuncData), Fun K "input_row" "input_row" s_input_row f fd ∧ mg "input_row" = some (.ref f) ∧ Binds K fd ["ins", "thing"] []
  t_deed_row : ∃ (f : Addr) (fd : FuncData), Fun K "deed_row" "deed_row" s_deed_row f fd ∧ mg "deed_row" = some (.ref f) ∧ Binds K fd ["deed", "rows"] []
  t_second_sign : ∃ (f : Addr) (fd : FuncData), Fun K "second_sign" "second_sign" s_second_sign f fd ∧ mg "second_sign" = some (.ref f) ∧ Binds K fd ["deed"] []
  t_numbers : ∃ (f : Addr) (fd : FuncData), Fun K "numbers" "numbers" s_numbers f fd ∧ mg "numbers" = some (.ref f) ∧ Binds K fd ["web"] []
  t_deed_arrows : ∃ (f : Addr) (fd : FuncData), Fun K "deed_arrows" "deed_arrows" s_deed_arrows f fd ∧ mg "deed_arrows" = some (.ref f) ∧ Binds K fd ["web"] []
  t_thing_count : ∃ (f : Addr) (fd : FuncData), Fun K "thing_count" "thing_count" s_thing_count f fd ∧ mg "thing_count" = some (.ref f) ∧ Binds K fd ["web"] []
  t_used : ∃ (f : Addr) (fd : FuncData), Fun K "used" "used" s_used f fd ∧ mg "used" = some (.ref f) ∧ Binds K fd ["web"] []
  t_form_of : ∃ (f : Addr) (fd : FuncData), Fun K "form_of" "form_of" s_form_of f fd ∧ mg "form_of" = some (.ref f) ∧ Binds K fd ["row"] []
  t_is_bare : ∃ (f : Addr) (fd : FuncData), Fun K "is_bare" "is_bare" s_is_bare f fd ∧ mg "is_bare" = some (.ref f) ∧ Binds K fd ["web"] []
  t_l_pen : ∃ (f : Addr) (fd : FuncData), Fun K "_law_pen" "_law_pen" s_l_pen f fd ∧ mg "_law_pen" = some (.ref f) ∧ Binds K fd ["_law_script"] []
  t_l_take : ∃ (f : Addr) (fd : FuncData), Fun K "_law_take" "_law_take" s_l_take f fd ∧ mg "_law_take" = some (.ref f) ∧ Binds K fd ["_law_pen_here", "_law_many"] []
  t_l_moved : ∃ (f : Addr) (fd : FuncData), Fun K "_law_moved" "_law_moved" s_l_moved f fd ∧ mg "_law_moved" = some (.ref f) ∧ Binds K fd ["_law_line", "_law_shift_here"] []
  t_l_come : ∃ (f : Addr) (fd : FuncData), Fun K "_law_come" "_law_come" s_l_come f fd ∧ mg "_law_come" = some (.ref f) ∧ Binds K fd ["_law_things_by", "_law_deed_here"] []
  t_l_odd : ∃ (f : Addr) (fd : FuncData), Fun K "_law_odd" "_law_odd" s_l_odd f fd ∧ mg "_law_odd" = some (.ref f) ∧ Binds K fd ["_law_number"] []
  t_l_like : ∃ (f : Addr) (fd : FuncData), Fun K "_law_like" "_law_like" s_l_like f fd ∧ mg "_law_like" = some (.ref f) ∧ Binds K fd ["_law_one", "_law_other"] []
  t_l_is_new : ∃ (f : Addr) (fd : FuncData), Fun K "_law_is_new" "_law_is_new" s_l_is_new f fd ∧ mg "_law_is_new" = some (.ref f) ∧ Binds K fd ["_law_things_by", "_law_line"] []
  t_l_shift : ∃ (f : Addr) (fd : FuncData), Fun K "_law_shift" "_law_shift" s_l_shift f fd ∧ mg "_law_shift" = some (.ref f) ∧ Binds K fd ["_law_pen_here", "_law_line"] []
  t_l_deed : ∃ (f : Addr) (fd : FuncData), Fun K "_law_deed" "_law_deed" s_l_deed f fd ∧ mg "_law_deed" = some (.ref f) ∧ Binds K fd ["_law_pen_here", "_law_things_by", "_law_first"] []
  t_l_built : ∃ (f : Addr) (fd : FuncData), Fun K "_law_built" "_law_built" s_l_built f fd ∧ mg "_law_built" = some (.ref f) ∧ Binds K fd ["_law_pen_here"] []
  t_l_bent : ∃ (f : Addr) (fd : FuncData), Fun K "_law_bent" "_law_bent" s_l_bent f fd ∧ mg "_law_bent" = some (.ref f) ∧ Binds K fd ["_law_pen_here", "_law_web", "_law_things_by"] []
  t_l_any : ∃ (f : Addr) (fd : FuncData), Fun K "_law_any" "_law_any" s_l_any f fd ∧ mg "_law_any" = some (.ref f) ∧ Binds K fd ["_law_pen_here"] []
  t_l_due : ∃ (f : Addr) (fd : FuncData), Fun K "_law_due" "_law_due" s_l_due f fd ∧ mg "_law_due" = some (.ref f) ∧ Binds K fd ["_law_web"] []
  t_law : ∃ (f : Addr) (fd : FuncData), Fun K "law" "law" s_law f fd ∧ mg "law" = some (.ref f) ∧ Binds K fd ["_law_script"] []
local macro_rules | `(tactic| walk_at "WP") => `(tactic| (first | (dsimp only [w_gLst, w_forE, w_compE, w_compZ, w_for3, w_gTupK, w_ixT, w_eqS, w_aug, w_ipI, w_dnK, w_maxD, w_sl, w_noPart, w_part, w_slL, w_var, w_C, w_op, w_un, w_rI, w_rI0, w_rU, w_eqI, w_neI, w_eqB, w_neB, w_seq, w_next, w_break, w_cont, w_ifS, w_ret, w_retN, w_drop, w_asg, w_gName, w_gSub, w_test, w_B, w_and, w_or, w_not, w_andV, w_orV, w_notV, w_if, w_call, w_nil, w_cons, w_CB, w_lst, w_tup, w_isN, w_notN, w_chain, w_for1, w_for2b, w_On2, w_forL, w_forT, w_forV, w_compL, w_compT, w_comp1, w_comp2b, w_yes, w_bm, w_bm0, w_rBits, w_tyInt, w_gTupM, w_gCons, w_gNil, w_dgS, w_dgI, w_sDP, w_dpS, w_dpI, w_dII, w_disp, tPairs, pen_s, pen_a, pen_l, pen_len, pen_pa, pen_pl, HO.dK.injEq, w_append, List.getElem?_cons_zero, List.getElem?_cons_succ, List.set_cons_zero, List.set_cons_succ, Option.some.injEq, V.int.injEq, V.bl.injEq, V.ref.injEq, V.str.injEq, exists_eq_left', exists_eq_left, List.append_nil, List.cons.injEq, and_true, true_and, exists_and_left, decide_eq_true_eq, Bool.not_eq_true', decide_eq_false_iff_not, Bool.not_true, Bool.not_false, w_ixM, w_ixU, w_ixL, w_setL, w_cxK, w_isI_ii, w_isI_ib, w_isI_bi, w_isI_bb, w_isI_ni, w_isI_nb, w_isI_si, w_isI_sb, sl_0, sl_1, sl_2, sl_3, sl_4, sl_5, sl_6, sl_7, sl_8, CPowB, w_shl1, at_0, at_1, at_2, at_3, ixN_0, ixN_1, ixN_2, upd_same, HO.lst.injEq, HO.tup.injEq, Int.reduceToNat, Int.reducePow, Int.reduceNeg, Int.reduceLT, Int.reduceLE, Int.reduceMod, Int.reduceMul, Int.reduceAdd, Int.reduceSub, Int.reduceDiv, Int.reduceEq, ite_true, ite_false, if_true, if_false, Bool.true_eq_false, Bool.false_eq_true, List.length_cons, List.length_nil, reduceCtorEq, false_and, and_false, not_false_eq_true, not_true_eq_false, exists_false, false_or, or_false, w_pop, w_extend, w_reverse, w_clear, w_cat, w_LZ, w_LR, w_forD, w_compZ2, w_sDPT, w_dpT, w_dIT, w_dgT, w_dnT, w_eqE, w_neE, w_revL, w_dget1, w_dget2]; try simp only [w_gLst, w_forE, w_compE, w_compZ, w_for3, w_gTupK, w_ixT, w_eqS, w_aug, w_ipI, w_dnK, w_maxD, w_sl, w_noPart, w_part, w_slL, w_var, w_C, w_op, w_un, w_rI, w_rI0, w_rU, w_eqI, w_neI, w_eqB, w_neB, w_seq, w_next, w_break, w_cont, w_ifS, w_ret, w_retN, w_drop, w_asg, w_gName, w_gSub, w_test, w_B, w_and, w_or, w_not, w_andV, w_orV, w_notV, w_if, w_call, w_nil, w_cons, w_CB, w_lst, w_tup, w_isN, w_notN, w_chain, w_for1, w_for2b, w_On2, w_forL, w_forT, w_forV, w_compL, w_compT, w_comp1, w_comp2b, w_yes, w_bm, w_bm0, w_rBits, w_tyInt, w_gTupM, w_gCons, w_gNil, w_dgS, w_dgI, w_sDP, w_dpS, w_dpI, w_dII, w_disp, tPairs, pen_s, pen_a, pen_l, pen_len, pen_pa, pen_pl, HO.dK.injEq, w_append, List.getElem?_cons_zero, List.getElem?_cons_succ, List.set_cons_zero, List.set_cons_succ, Option.some.injEq, V.int.injEq, V.bl.injEq, V.ref.injEq, V.str.injEq, exists_eq_left', exists_eq_left, List.append_nil, List.cons.injEq, and_true, true_and, exists_and_left, decide_eq_true_eq, Bool.not_eq_true', decide_eq_false_iff_not, Bool.not_true, Bool.not_false, w_ixM, w_ixU, w_ixL, w_setL, w_cxK, w_isI_ii, w_isI_ib, w_isI_bi, w_isI_bb, w_isI_ni, w_isI_nb, w_isI_si, w_isI_sb, sl_0, sl_1, sl_2, sl_3, sl_4, sl_5, sl_6, sl_7, sl_8, CPowB, w_shl1, at_0, at_1, at_2, at_3, ixN_0, ixN_1, ixN_2, upd_same, HO.lst.injEq, HO.tup.injEq, Int.reduceToNat, Int.reducePow, Int.reduceNeg, Int.reduceLT, Int.reduceLE, Int.reduceMod, Int.reduceMul, Int.reduceAdd, Int.reduceSub, Int.reduceDiv, Int.reduceEq, ite_true, ite_false, if_true, if_false, Bool.true_eq_false, Bool.false_eq_true, List.length_cons, List.length_nil, reduceCtorEq, false_and, and_false, not_false_eq_true, not_true_eq_false, exists_false, false_or, or_false, w_pop, w_extend, w_reverse, w_clear, w_cat, w_LZ, w_LR, w_forD, w_compZ2, w_sDPT, w_dpT, w_dIT, w_dgT, w_dnT, w_eqE, w_neE, w_revL, w_dget1, w_dget2]) | simp only [w_gLst, w_forE, w_compE, w_compZ, w_for3, w_gTupK, w_ixT, w_eqS, w_aug, w_ipI, w_dnK, w_maxD, w_sl, w_noPart, w_part, w_slL, w_var, w_C, w_op, w_un, w_rI, w_rI0, w_rU, w_eqI, w_neI, w_eqB, w_neB, w_seq, w_next, w_break, w_cont, w_ifS, w_ret, w_retN, w_drop, w_asg, w_gName, w_gSub, w_test, w_B, w_and, w_or, w_not, w_andV, w_orV, w_notV, w_if, w_call, w_nil, w_cons, w_CB, w_lst, w_tup, w_isN, w_notN, w_chain, w_for1, w_for2b, w_On2, w_forL, w_forT, w_forV, w_compL, w_compT, w_comp1, w_comp2b, w_yes, w_bm, w_bm0, w_rBits, w_tyInt, w_gTupM, w_gCons, w_gNil, w_dgS, w_dgI, w_sDP, w_dpS, w_dpI, w_dII, w_disp, tPairs, pen_s, pen_a, pen_l, pen_len, pen_pa, pen_pl, HO.dK.injEq, w_append, List.getElem?_cons_zero, List.getElem?_cons_succ, List.set_cons_zero, List.set_cons_succ, Option.some.injEq, V.int.injEq, V.bl.injEq, V.ref.injEq, V.str.injEq, exists_eq_left', exists_eq_left, List.append_nil, List.cons.injEq, and_true, true_and, exists_and_left, decide_eq_true_eq, Bool.not_eq_true', decide_eq_false_iff_not, Bool.not_true, Bool.not_false, w_ixM, w_ixU, w_ixL, w_setL, w_cxK, w_isI_ii, w_isI_ib, w_isI_bi, w_isI_bb, w_isI_ni, w_isI_nb, w_isI_si, w_isI_sb, sl_0, sl_1, sl_2, sl_3, sl_4, sl_5, sl_6, sl_7, sl_8, CPowB, w_shl1, at_0, at_1, at_2, at_3, ixN_0, ixN_1, ixN_2, upd_same, HO.lst.injEq, HO.tup.injEq, Int.reduceToNat, Int.reducePow, Int.reduceNeg, Int.reduceLT, Int.reduceLE, Int.reduceMod, Int.reduceMul, Int.reduceAdd, Int.reduceSub, Int.reduceDiv, Int.reduceEq, ite_true, ite_false, if_true, if_false, Bool.true_eq_false, Bool.false_eq_true, List.length_cons, List.length_nil, reduceCtorEq, false_and, and_false, not_false_eq_true, not_true_eq_false, exists_false, false_or, or_false, w_pop, w_extend, w_reverse, w_clear, w_cat, w_LZ, w_LR, w_forD, w_compZ2, w_sDPT, w_dpT, w_dIT, w_dgT, w_dnT, w_eqE, w_neE, w_revL, w_dget1, w_dget2]))
section
variable {P : Program} {w : World} {K : PySem.W.Frag} {mg : Str → Option Value} {base : Heap}
theorem ok_shifted (T : Txt K mg) : Cal P w K mg base 1 "shifted" ["number", "shift"] spShifted := by
  have B := T.bl
  refine mkCal T.t_shifted sc_shifted (fun vs H Q E h => ?_) (fun f cdv A outer s H vs Q E hr h => ?_)
  · obtain ⟨n, s, rfl, _⟩ := h
    rfl
  obtain ⟨n, sh, rfl, h0, h1, hb, q⟩ := h
  refine ⟨_, ((@pss_cons _ _ _ _ _ (@ps_if _ _ _ _ _ _ _ _ (@pt_cmpR _ _ _ _ _ _ _ _ op_ge (pv 1) pe_int (@nomark _ _ (by decide) (by decide))) (@pss_one _ _ _ (@ps_ret _ _ _ _ (@pe_op _ _ _ _ _ _ _ _ op_shlB (pv 0) (pv 1)))) pss_nil) (@pss_cons _ _ _ _ _ (@ps_set _ _ (2) _ _ _ _ sc_shifted.nd rfl (by first | exact Or.inl rfl | exact Or.inr rfl) (@pe_op _ _ _ _ _ _ _ _ op_shr (pv 0) (@pe_un _ _ _ _ _ _ un_neg (pv 1))) (by rfl) (by first | exact .inl rfl | exact .inr rfl | assumption)) (@pss_cons _ _ _ _ _ (@ps_if _ _ _ _ _ _ _ _ (@pt_cmpR _ _ _ _ _ _ _ _ op_ne (@pe_op _ _ _ _ _ _ _ _ op_shlB (pv 2) (@pe_un _ _ _ _ _ _ un_neg (pv 1))) (pv 0) (@nomark _ _ (by decide) (by decide))) (@pss_one _ _ _ (@ps_ret _ _ _ _ pe_non)) pss_nil) (@pss_one _ _ _ (@ps_ret _ _ _ _ (pv 2))))))), ?_⟩
  rw [show start ["number", "shift", "halved"] [.int n, .int sh] = [some (.int n), some (.int sh), none] from rfl]
  try walk_at "WP"
  unfold shV at q
  refine ite2 (fun c => ?_) (fun c => ?_)
  · rw [if_pos c] at q
    exact ⟨shl_ok c (by omega) hb (by decide), q⟩
  · rw [if_neg c] at q
    refine ⟨by omega, shl_ok (by omega) (by omega) (abs_div (pow_pos2 _) hb) (by decide), ?_⟩
    refine ite2 (fun d => ?_) (fun d => ?_)
    · rw [if_neg d] at q
      exact q
    · rw [if_pos (Decidable.not_not.mp d)] at q
      exact q
end

section
variable {P : Program} {w : World} {K : PySem.W.Frag} {mg : Str → Option Value} {base : Heap}
theorem ok_core (T : Txt K mg) : Cal P w K mg base 1 "core" ["number"] spCoreT := by
  have B := T.bl
  refine mkCal T.t_core sc_core (fun vs H Q E h => ?_) (fun f cdv A outer s H vs Q E hr h => ?_)
  · obtain ⟨n, rfl, _⟩ := h
    rfl
  obtain ⟨n, rfl, q0⟩ := h
  have q : ∀ p, H p = none → Q (.ref p) (upd H p (.tup ((coreL n).map V.int))) := fun p hp => by
    rw [core_three]
    exact q0 p hp
  refine ⟨_, ((@pss_cons _ _ _ _ _ (@ps_if _ _ _ _ _ _ _ _ (@pt_cmpR _ _ _ _ _ _ _ _ op_eq (pv 0) pe_int (@nomark _ _ (by decide) (by decide))) (@pss_one _ _ _ (@ps_ret _ _ _ _ (@pe_tup _ _ _ _ _ (@pa_cons _ _ _ _ _ pe_int (@pa_cons _ _ _ _ _ pe_int (@pa_cons _ _ _ _ _ pe_int pa_nil (by rfl)) (by rfl)) (by rfl))))) pss_nil) (@pss_cons _ _ _ _ _ (@ps_set _ _ (1) _ _ _ _ sc_core.nd rfl (by first | exact Or.inl rfl | exact Or.inr rfl) (@pe_callB _ _ _ _ _ _ _ _ _ call_abs rfl B.abs bo_abs (@pa_cons _ _ _ _ _ (pv 0) pa_nil (by rfl)) (by decide) (by decide) (by rfl) (by rfl)) (by rfl) (by first | exact .inl rfl | exact .inr rfl | assumption)) (@pss_cons _ _ _ _ _ (@ps_set _ _ (2) _ _ _ _ sc_core.nd rfl (by first | exact Or.inl rfl | exact Or.inr rfl) (@pe_op _ _ _ _ _ _ _ _ op_sub (@pe_bm0 _ _ _ _ _ _ _ _ _ PySem.F.plainAttrs_int PyProof.Rows.slot_int_bit_length PyProof.Rows.type_int_bit_length mt_bits (@pe_op _ _ _ _ _ _ _ _ op_and (pv 1) (@pe_un _ _ _ _ _ _ un_neg (pv 1))) (by rfl) (by rfl)) pe_int) (by rfl) (by first | exact .inl rfl | exact .inr rfl | assumption)) (@pss_cons _ _ _ _ _ (@ps_set _ _ (3) _ _ _ _ sc_core.nd rfl (by first | exact Or.inl rfl | exact Or.inr rfl) (@pe_ifExp _ _ _ _ _ _ _ _ (@pt_cmpR _ _ _ _ _ _ _ _ op_gt (pv 0) pe_int (@nomark _ _ (by decide) (by decide))) pe_int (@pe_un _ _ _ _ _ _ un_neg pe_int)) (by rfl) (by first | exact .inl rfl | exact .inr rfl | assumption)) (@pss_one _ _ _ (@ps_ret _ _ _ _ (@pe_tup _ _ _ _ _ (@pa_cons _ _ _ _ _ (@pe_op _ _ _ _ _ _ _ _ op_shr (pv 1) (pv 2)) (@pa_cons _ _ _ _ _ (pv 2) (@pa_cons _ _ _ _ _ (pv 3) pa_nil (by rfl)) (by rfl)) (by rfl)))))))))), ?_⟩
  rw [show start ["number", "size", "shift", "sign"] [.int n] = [some (.int n), none, none, none] from rfl]
  try walk_at "WP"
  refine ite2 (fun c => ?_) (fun c => ?_)
  · intro p hp
    have := q p hp
    rw [show coreL n = [0, 0, 0] by unfold coreL; rw [if_pos c]] at this
    exact this
  · obtain ⟨m, k, e1, e2⟩ := core_fact c
    have el : lowK n = (k : Int) := by
      unfold coreL at e2
      rw [if_neg c] at e2
      simp only [List.cons.injEq] at e2
      exact e2.2.1
    have e3 : coreL n = [absI n / 2 ^ (lowK n).toNat, lowK n, if 0 < n then 1 else -1] := by unfold coreL; rw [if_neg c]
    rw [e3] at q
    have ge : 0 ≤ lowK n := by omega
    refine ite2 (fun d => ?_) (fun d => ?_)
    · rw [if_pos d] at q
      exact ⟨ge, q⟩
    · rw [if_neg d] at q
      exact ⟨ge, q⟩
end

section
variable {P : Program} {w : World} {K : PySem.W.Frag} {mg : Str → Option Value} {base : Heap}
theorem ok_inrow (T : Txt K mg) : Cal P w K mg base 1 "input_row" ["ins", "thing"] spInRow := by
  have B := T.bl
  refine mkCal T.t_input_row sc_input_row (fun vs H Q E h => ?_) (fun f cdv A outer s H vs Q E hr h => ?_)
  · obtain ⟨n, i, rfl, _⟩ := h
    rfl
  obtain ⟨n, i, rfl, hn, q⟩ := h
  refine ⟨_, ((@pss_one _ _ _ (@ps_ret _ _ _ _ (@pe_callTy _ _ _ _ _ _ _ _ _ call_tuple_of rfl B.tuple bo_tuple (@pa_cons _ _ _ _ _ (@pe_comp0 _ _ _ _ _ _ _ _ (["place", "thing"]) (1) ([1]) _ _ _ rfl (@pi_range1 _ _ _ _ _ _ rfl B.range (@pa_cons _ _ _ _ _ (pv 0) pa_nil (by rfl)) (by rfl)) (fun nd C s H fp => ⟨(@pg_name _ _ (0) _ nd rfl (by first | exact Or.inl rfl | exact Or.inr rfl) (by first | exact .inl rfl | exact .inr rfl | assumption)), pn_nil, (@pe_ifExp _ _ _ _ _ _ _ _ (@pt_cmpR _ _ _ _ _ _ _ _ op_eq (pv 0) (pv 1) (@nomark _ _ (by decide) (by decide))) pe_int pe_int)⟩) (by decide +kernel) (by first | rfl | decide +kernel) (by first | rfl | decide +kernel) rfl (fun _ => rfl)) pa_nil (by rfl)) (by decide) (by decide) (by rfl) (by rfl))))), ?_⟩
  rw [show start ["ins", "thing"] [.int n, .int i] = [some (.int n), some (.int i)] from rfl]
  try walk_at "WP"
  refine ⟨by omega, by omega, ?_⟩
  rw [Int.toNat_natCast]
  refine comp_R (f := unV i) (le_size (by omega)) (fun y H5 R5 hy s5 hR5 => ?_) (fun acc hacc => ?_)
  · obtain ⟨k, hk, rfl⟩ := List.mem_map.mp hy
    rw [show capV [1] [some (V.int (n : Int)), some (V.int (i : Int))] = [some (V.int (i : Int))] from rfl]
    try walk_at "WP"
    have e : unV i (V.int (0 + (k : Int))) = some (V.int (if 0 + (k : Int) = (i : Int) then 1 else 0)) := rfl
    rw [e] at hR5
    refine ite2 (fun z => ?_) (fun z => ?_)
    · rw [if_pos z] at hR5
      exact hR5
    · rw [if_neg z] at hR5
      exact hR5
  rw [unV_map]
  have sa := same_new hacc (.lst ((unitRow n i).map V.int))
  try walk_at "WP"
  refine ⟨_, .inl ⟨SqL.of upd_same, fun r hr0 => ?_⟩⟩
  exact q r _ (sa.free hr0) (sa.trans (same_new hr0 _)) upd_same
theorem ok_inrows (T : Txt K mg) : Cal P w K mg base 2 "input_rows" ["ins"] spInRows := by
  have B := T.bl
  have C_input_row := ok_inrow (P := P) (w := w) (base := base) T
  refine mkCal T.t_input_rows sc_input_rows (fun vs H Q E h => ?_) (fun f cdv A outer s H vs Q E hr h => ?_)
  · obtain ⟨n, rfl, _⟩ := h
    rfl
  obtain ⟨n, rfl, hn, q⟩ := h
  refine ⟨_, ((@pss_one _ _ _ (@ps_ret _ _ _ _ (@pe_comp0 _ _ _ _ _ _ _ _ (["thing", "ins"]) (1) ([0]) _ _ _ rfl (@pi_range1 _ _ _ _ _ _ rfl B.range (@pa_cons _ _ _ _ _ (pv 0) pa_nil (by rfl)) (by rfl)) (fun nd C s H fp => ⟨(@pg_name _ _ (0) _ nd rfl (by first | exact Or.inl rfl | exact Or.inr rfl) (by first | exact .inl rfl | exact .inr rfl | assumption)), pn_nil, (@pe_cal _ _ _ _ _ _ _ _ _ _ C_input_row hr rfl (@pa_cons _ _ _ _ _ (pv 1) (@pa_cons _ _ _ _ _ (pv 0) pa_nil (by rfl)) (by rfl)) (by decide) (by rfl) (by rfl))⟩) (by decide +kernel) (by first | rfl | decide +kernel) (by first | rfl | decide +kernel) rfl (fun _ => rfl))))), ?_⟩
  rw [show start ["ins"] [.int n] = [some (.int n)] from rfl]
  try walk_at "WP"
  refine ⟨by omega, by omega, ?_⟩
  rw [Int.toNat_natCast]
  refine comp_tups (f := iT) (xs := rngV 0 n) ((List.range n).map (unitRow n)) (by rw [rngV_len, List.length_map, List.length_range]) (by rw [rngV_len]; omega) (fun H' _ => it_R) (fun i x z H' R hx hz s' hR => ?_) (fun acc ys H' ha s' h' ht => q acc ys H' ha s' h' ht)
  have hi : i < n := by have := (List.getElem?_eq_some_iff.mp hx).1; rwa [rngV_len] at this
  rw [rngV_get hi] at hx
  cases hx
  rw [List.getElem?_map, List.getElem?_range hi] at hz
  cases hz
  rw [show capV [0] [some (V.int (n : Int))] = [some (V.int (n : Int))] from rfl]
  try walk_at "WP"
  rw [Int.zero_add]
  exact ⟨n, i, rfl, hn, fun r H5 a b c => hR r H5 a b c⟩
end

section
variable {P : Program} {w : World} {K : PySem.W.Frag} {mg : Str → Option Value} {base : Heap}
theorem ok_shrowN (T : Txt K mg) : Cal P w K mg base 2 "shifted_row" ["row", "shift"] spShRowN := by
  have B := T.bl
  have C_shifted := ok_shifted (P := P) (w := w) (base := base) T
  refine mkCal T.t_shifted_row sc_shifted_row (fun vs H Q E h => ?_) (fun f cdv A outer s H vs Q E hr h => ?_)
  · obtain ⟨_, _, _, rfl, _⟩ := h
    rfl
  obtain ⟨l, sh, xs, rfl, hl, hlen, hb, s0, s1, q⟩ := h
  refine ⟨_, ((@pss_one _ _ _ (@ps_ret _ _ _ _ (@pe_comp0 _ _ _ _ _ _ _ _ (["number", "shift"]) (1) ([1]) _ _ _ rfl (@pi_tup _ _ _ _ (pv 0)) (fun nd C s H fp => ⟨(@pg_name _ _ (0) _ nd rfl (by first | exact Or.inl rfl | exact Or.inr rfl) (by first | exact .inl rfl | exact .inr rfl | assumption)), pn_nil, (@pe_cal _ _ _ _ _ _ _ _ _ _ C_shifted hr rfl (@pa_cons _ _ _ _ _ (pv 0) (@pa_cons _ _ _ _ _ (pv 1) pa_nil (by rfl)) (by rfl)) (by decide) (by rfl) (by rfl))⟩) (by decide +kernel) (by first | rfl | decide +kernel) (by first | rfl | decide +kernel) rfl (fun _ => rfl))))), ?_⟩
  rw [show start ["row", "shift"] [.ref l, .int sh] = [some (.ref l), some (.int sh)] from rfl]
  unfold iT at hl
  try walk_at "WP"
  refine ⟨⟨_, SqT.of hl⟩, ?_⟩
  refine comp_T (f := shRV sh) (SqT.of hl) (by rw [List.length_map]; exact le_big (by omega)) (fun y H' R hy hS' hR => ?_) (fun acc hacc => ?_)
  · obtain ⟨n, hn, rfl⟩ := List.mem_map.mp hy
    rw [show capV [1] [some (V.ref l), some (V.int sh)] = [some (V.int sh)] from rfl]
    try walk_at "WP"
    exact ⟨n, sh, rfl, by omega, by omega, Nat.lt_of_lt_of_le (hb n hn) (Nat.pow_le_pow_right (by decide) (by decide)), hR⟩
  rw [shRV_mapN]
  exact q acc _ hacc (same_new hacc _) upd_same
theorem ok_secondC (T : Txt K mg) : Cal P w K mg base 1 "second_sign" ["deed"] (spSecond K) := by
  have B := T.bl
  refine mkCal T.t_second_sign sc_second_sign (fun vs H Q E h => ?_) (fun f cdv A outer s H vs Q E hr h => ?_)
  · obtain ⟨x, d, rfl, _⟩ := h
    rfl
  obtain ⟨x, d, rfl, hx, q⟩ := h
  refine ⟨_, ((@pss_one _ _ _ (@ps_ret _ _ _ _ (@pe_ifExp _ _ _ _ _ _ _ _ (@pt_cmpR _ _ _ _ _ _ _ _ op_eq (@pe_ix _ _ _ _ _ _ _ ix_tup (pv 0) pe_int (fun _ _ => rfl)) pe_str (@nomark _ _ (by decide) (by decide))) (@pe_un _ _ _ _ _ _ un_neg pe_int) pe_int)))), ?_⟩
  rw [show start ["deed"] [.ref x] = [some (.ref x)] from rfl]
  unfold wTup at hx
  (iterate 5 ((try (walk_at "WP")); (try (simp only [hx, Option.some.injEq, HO.tup.injEq, HO.lst.injEq, HO.dK.injEq, exists_eq_left', exists_eq_left])))); (try (walk_at "WP"))
  refine ⟨_, hx, _, rfl, ?_⟩
  try walk_at "WP"
  unfold sgW at q
  by_cases z : d.w = Str.ofString "less"
  · rw [if_pos z] at q ⊢
    exact q
  · rw [if_neg z] at q ⊢
    exact q
theorem ok_second (T : Txt K mg) : Cal P w K mg base 1 "second_sign" ["deed"] spSnd := (ok_secondC (P := P) (w := w) (base := base) T).imp fun vs H Q E h => by
  obtain ⟨x, d, e, hx, q⟩ := h
  exact ⟨x, d, e, SqT.of hx, q⟩
theorem ok_drow4 (T : Txt K mg) : Cal P w K mg base 3 "deed_row" ["deed", "rows"] (spDRow4 K) := by
  have B := T.bl
  have C_shifted_row := ok_shrowN (P := P) (w := w) (base := base) T
  have C_second_sign := (ok_secondC (P := P) (w := w) (base := base) T).mono (k := 2) (by decide)
  refine mkCal T.t_deed_row sc_deed_row (fun vs H Q E h => ?_) (fun f cdv A outer s H vs Q E hr h => ?_)
  · obtain ⟨x, l, d, ys, rs, ins, rfl, _⟩ := h
    rfl
  obtain ⟨x, l, d, ys, rs, ins, rfl, hx, hl, ht, ha, hb, hsa, hsb, hw, hi, rb, q⟩ := h
  refine ⟨_, ((@pss_cons _ _ _ _ _ (@ps_set _ _ (2) _ _ _ _ sc_deed_row.nd rfl (by first | exact Or.inl rfl | exact Or.inr rfl) (@pe_cal _ _ _ _ _ _ _ _ _ _ C_shifted_row hr rfl (@pa_cons _ _ _ _ _ (@pe_ix _ _ _ _ _ _ _ ix_M (pv 1) (@pe_ix _ _ _ _ _ _ _ ix_tup (pv 0) pe_int (fun _ _ => rfl)) (fun _ _ => rfl)) (@pa_cons _ _ _ _ _ (@pe_ix _ _ _ _ _ _ _ ix_tup (pv 0) pe_int (fun _ _ => rfl)) pa_nil (by rfl)) (by rfl)) (by decide) (by rfl) (by rfl)) (by rfl) (by first | exact .inl rfl | exact .inr rfl | assumption)) (@pss_cons _ _ _ _ _ (@ps_set _ _ (3) _ _ _ _ sc_deed_row.nd rfl (by first | exact Or.inl rfl | exact Or.inr rfl) (@pe_cal _ _ _ _ _ _ _ _ _ _ C_shifted_row hr rfl (@pa_cons _ _ _ _ _ (@pe_ix _ _ _ _ _ _ _ ix_M (pv 1) (@pe_ix _ _ _ _ _ _ _ ix_tup (pv 0) pe_int (fun _ _ => rfl)) (fun _ _ => rfl)) (@pa_cons _ _ _ _ _ (@pe_ix _ _ _ _ _ _ _ ix_tup (pv 0) pe_int (fun _ _ => rfl)) pa_nil (by rfl)) (by rfl)) (by decide) (by rfl) (by rfl)) (by rfl) (by first | exact .inl rfl | exact .inr rfl | assumption)) (@pss_cons _ _ _ _ _ (@ps_set _ _ (4) _ _ _ _ sc_deed_row.nd rfl (by first | exact Or.inl rfl | exact Or.inr rfl) (@pe_cal _ _ _ _ _ _ _ _ _ _ C_second_sign hr rfl (@pa_cons _ _ _ _ _ (pv 0) pa_nil (by rfl)) (by decide) (by rfl) (by rfl)) (by rfl) (by first | exact .inl rfl | exact .inr rfl | assumption)) (@pss_one _ _ _ (@ps_ret _ _ _ _ (@pe_callTy _ _ _ _ _ _ _ _ _ call_tuple_of rfl B.tuple bo_tuple (@pa_cons _ _ _ _ _ (@pe_comp0 _ _ _ _ _ _ _ _ (["one", "other", "sign"]) (2) ([4]) _ _ _ rfl (@pi_zip _ _ _ _ _ _ _ _ _ rfl B.zip (@pa_cons _ _ _ _ _ (pv 2) (@pa_cons _ _ _ _ _ (pv 3) pa_nil (by rfl)) (by rfl)) (by rfl) (by rfl)) (fun nd C s H fp => ⟨(@pg_tupM _ _ _ _ _ 2 rfl (@pgs_cons _ _ _ _ _ (@pg_name _ _ (0) _ nd rfl (by first | exact Or.inl rfl | exact Or.inr rfl) (by first | exact .inl rfl | exact .inr rfl | assumption)) (@pgs_cons _ _ _ _ _ (@pg_name _ _ (1) _ nd rfl (by first | exact Or.inl rfl | exact Or.inr rfl) (by first | exact .inl rfl | exact .inr rfl | assumption)) pgs_nil (by rfl)) (by rfl)) (by rfl) (by rfl)), pn_nil, (@pe_op _ _ _ _ _ _ _ _ op_add (pv 0) (@pe_op _ _ _ _ _ _ _ _ op_mulB (pv 2) (pv 1)))⟩) (by decide +kernel) (by first | rfl | decide +kernel) (by first | rfl | decide +kernel) rfl (fun _ => rfl)) pa_nil (by rfl)) (by decide) (by decide) (by rfl) (by rfl)))))))), ?_⟩
  rw [show start ["deed", "rows", "left", "right", "sign"] [.ref x, .ref l] = [some (.ref x), some (.ref l), none, none, none] from rfl]
  have hx' := hx
  unfold wTup at hx'
  (iterate 5 ((try (walk_at "WP")); (try (simp only [hl, Option.some.injEq, HO.tup.injEq, HO.lst.injEq, HO.dK.injEq, exists_eq_left', exists_eq_left])))); (try (walk_at "WP"))
  obtain ⟨la, a1, a2, a3⟩ := tup_of ht ha
  refine ⟨_, hx', _, rfl, ?_⟩
  (iterate 5 ((try (walk_at "WP")); (try (simp only [hl, Option.some.injEq, HO.tup.injEq, HO.lst.injEq, HO.dK.injEq, exists_eq_left', exists_eq_left])))); (try (walk_at "WP"))
  refine ⟨_, a1, _, hx', _, rfl, ?_⟩
  refine ⟨la, d.s, _, rfl, a2, by rw [hw _ a3]; omega, rb.lt a3 (by decide), hsa.1, hsa.2.1, fun r1 H1 n1 s1 h1 => ?_⟩
  rw [shV_map4 hsa.2.2] at h1
  have hx1 := s1.seqT hx'
  have hl1 := s1 _ _ hl
  (iterate 5 ((try (walk_at "WP")); (try (simp only [hl1, Option.some.injEq, HO.tup.injEq, HO.lst.injEq, HO.dK.injEq, exists_eq_left', exists_eq_left])))); (try (walk_at "WP"))
  refine ⟨_, hx1, _, rfl, ?_⟩
  (iterate 5 ((try (walk_at "WP")); (try (simp only [hl1, Option.some.injEq, HO.tup.injEq, HO.lst.injEq, HO.dK.injEq, exists_eq_left', exists_eq_left])))); (try (walk_at "WP"))
  obtain ⟨lb, b1, b2, b3⟩ := tup_of (ht.same s1) hb
  refine ⟨_, b1, _, hx1, _, rfl, ?_⟩
  refine ⟨lb, d.t, _, rfl, b2, by rw [hw _ b3]; omega, rb.lt b3 (by decide), hsb.1, hsb.2.1, fun r2 H2 n2 s2 h2 => ?_⟩
  rw [shV_map4 hsb.2.2] at h2
  try walk_at "WP"
  refine ⟨x, d, rfl, (s1.trans s2).seqT hx, ?_⟩
  try walk_at "WP"
  have h1' := s2 _ _ h1
  refine ⟨r1, r2, ⟨rfl, rfl⟩, _, SqL.of h1', _, SqL.of h2, ?_⟩
  have hg : sgW d.w = 1 ∨ sgW d.w = -1 := by
    unfold sgW
    split
    · exact .inr rfl
    · exact .inl rfl
  have hla := hw _ a3
  have hlb := hw _ b3
  refine comp_zip (SqL.of h1') (SqL.of h2) (by simp only [List.length_map]; omega) (by simp only [List.length_map]; omega) ((rowD rs d).map V.int) (by unfold rowD; simp only [List.length_map, List.length_zipWith]; omega) (fun i u v z H' R hu hv hz s' hR => ?_) (fun acc H3 n3 s3 h3 => ?_)
  · rw [show capV [4] [some (V.ref x), some (V.ref l), some (V.ref r1), some (V.ref r2), some (V.int (sgW d.w))] = [some (V.int (sgW d.w))] from rfl]
    obtain ⟨x', hx2, rfl⟩ := map_at hu
    obtain ⟨y', hy2, rfl⟩ := map_at hv
    obtain ⟨z', hz2, rfl⟩ := map_at hz
    have ez : z' = x' + sgW d.w * y' := by
      unfold rowD at hz2
      rw [List.getElem?_map] at hx2 hy2
      rw [List.getElem?_zipWith] at hz2
      cases q1 : (rs.getD d.a [])[i]? with
      | none => rw [q1] at hx2; cases hx2
      | some p1 =>
        cases q2 : (rs.getD d.b [])[i]? with
        | none => rw [q2] at hy2; cases hy2
        | some p2 =>
          rw [q1] at hx2 hz2
          rw [q2] at hy2 hz2
          cases hx2
          cases hy2
          cases hz2
          rfl
    subst ez
    rw [List.cons_append, List.cons_append, List.nil_append]
    try walk_at "WP"
    exact ⟨mul_l (by omega) (by omega), hR⟩
  try walk_at "WP"
  refine ⟨_, .inl ⟨SqL.of h3, fun r hr0 => ?_⟩⟩
  have s13 := (s1.trans s2).trans s3
  exact q r _ (s13.free hr0) (s13.trans (same_new hr0 _)) upd_same
end

section
variable {P : Program} {w : World} {K : PySem.W.Frag} {mg : Str → Option Value} {base : Heap}
theorem ok_nums4 (T : Txt K mg) : Cal P w K mg base 4 "numbers" ["web"] (spNums4 K) := by
  have B := T.bl
  have C_input_rows := (ok_inrows (P := P) (w := w) (base := base) T).mono (k := 3) (by decide)
  have C_deed_row := ok_drow4 (P := P) (w := w) (base := base) T
  refine mkCal T.t_numbers sc_numbers (fun vs H Q E h => ?_) (fun f cdv A outer s H vs Q E hr h => ?_)
  · obtain ⟨x, _, _, _, _, _, _, _, rfl, _⟩ := h
    rfl
  obtain ⟨x, dl, gl, ins, us, ds, os, gs, rfl, W, F, q⟩ := h
  refine ⟨_, ((@pss_cons _ _ _ _ _ (@ps_set _ _ (1) _ _ _ _ sc_numbers.nd rfl (by first | exact Or.inl rfl | exact Or.inr rfl) (@pe_cal _ _ _ _ _ _ _ _ _ _ C_input_rows hr rfl (@pa_cons _ _ _ _ _ (@pe_ix _ _ _ _ _ _ _ ix_U (pv 0) pe_int (fun _ _ => rfl)) pa_nil (by rfl)) (by decide) (by rfl) (by rfl)) (by rfl) (by first | exact .inl rfl | exact .inr rfl | assumption)) (@pss_cons _ _ _ _ _ (@ps_for _ _ _ _ _ _ _ _ PassesOwn.never rfl (@pi_list _ _ _ _ (@pe_ix _ _ _ _ _ _ _ ix_U (pv 0) pe_int (fun _ _ => rfl))) (@pg_name _ _ (2) _ sc_numbers.nd rfl (by first | exact Or.inl rfl | exact Or.inr rfl) (by first | exact .inl rfl | exact .inr rfl | assumption)) (@pss_one _ _ _ (@ps_expr _ _ _ _ (@pe_bm _ _ _ _ _ _ _ _ _ _ _ _ PySem.F.plainAttrs_list PySem.F.slot_list_append PySem.F.type_list_append mt_append (pv 1) (@pa_cons _ _ _ _ _ (@pe_cal _ _ _ _ _ _ _ _ _ _ C_deed_row hr rfl (@pa_cons _ _ _ _ _ (pv 2) (@pa_cons _ _ _ _ _ (pv 1) pa_nil (by rfl)) (by rfl)) (by decide) (by rfl) (by rfl)) pa_nil (by rfl)) (by rfl) (by rfl) (by rfl) (by rfl) (by rfl)) (by rfl))) (by intro _ ; rfl)) (@pss_one _ _ _ (@ps_ret _ _ _ _ (pv 1)))))), ?_⟩
  rw [show start ["web", "rows", "deed"] [.ref x] = [some (.ref x), none, none] from rfl]
  have h1 := W.tup
  (iterate 5 ((try (walk_at "WP")); (try (simp only [h1, Option.some.injEq, HO.tup.injEq, HO.lst.injEq, HO.dK.injEq, exists_eq_left', exists_eq_left])))); (try (walk_at "WP"))
  have i12 := F.ok.i2
  have dl60 := F.ok.dl
  refine ⟨ins, rfl, by omega, fun rw0 ys H1 nr s1 hr1 ht => ?_⟩
  have h2 := s1 _ _ h1
  (iterate 5 ((try (walk_at "WP")); (try (simp only [h2, Option.some.injEq, HO.tup.injEq, HO.lst.injEq, HO.dK.injEq, exists_eq_left', exists_eq_left])))); (try (walk_at "WP"))
  refine ⟨⟨_, SqL.of (s1 _ _ W.dll)⟩, ?_⟩
  refine forL (xs := us) (fun i σ H2 => ∃ (o2 : Option V) (ys : List V), σ = [some (.ref x), some (.ref rw0), o2] ∧ Same H H2 ∧ H2 rw0 = some (.lst ys) ∧ HTs iT H2 ys (rowsW ins (ds.take i))) ⟨none, ys, rfl, s1, hr1, ht⟩ ?_ ?_ ?_
  · rintro i σ H2 _ ⟨_, _, _, s2, _⟩
    exact SqL.of (s2 _ _ W.dll)
  · rintro i v σ H2 N hv ⟨o2, ys, rfl, s2, hr2, ht2⟩ hN
    have hi : i < ds.length := by rw [← W.hds.len]; exact (List.getElem?_eq_some_iff.mp hv).1
    obtain ⟨y, hy1, hy2⟩ := W.hds.at_ i _ (List.getElem?_eq_getElem hi)
    have hdi : ds[i]? = some ds[i] := List.getElem?_eq_getElem hi
    generalize ds[i] = d at hy2 hdi
    rw [hv] at hy1
    cases hy1
    try walk_at "WP"
    refine ⟨ty_list hr2, ?_⟩
    obtain ⟨da, db, sa, sb⟩ := F.sh i d hdi
    have rl : (rowsW ins (ds.take i)).length = ins + i := by rw [rowsW_len, List.length_take]; omega
    refine ⟨y, rw0, d, ys, rowsW ins (ds.take i), ins, rfl, SqT.of (s2 _ _ hy2), hr2, ht2, by omega, by omega, by rw [rowsW_takeD (by omega) da]; exact sa, by rw [rowsW_takeD (by omega) db]; exact sb, fun r hr => F.wd r (rowsW_sub r hr), i12, fun r hr => F.rb r (rowsW_sub r hr), fun r H3 nr3 s3 hr3 => ?_⟩
    have hr4 := s3 _ _ hr2
    have yl : ys.length = ins + i := by rw [ht2.len, rl]
    (iterate 5 ((try (walk_at "WP")); (try (simp only [hr4, Option.some.injEq, HO.tup.injEq, HO.lst.injEq, HO.dK.injEq, exists_eq_left', exists_eq_left])))); (try (walk_at "WP"))
    refine ⟨Nat.lt_of_lt_of_le (by omega : ys.length < 1000) (le_size (by decide)), hN _ _ ⟨_, _, rfl, same_upd nr (s2.trans s3), upd_same, ?_⟩⟩
    rw [rowsW_take hdi]
    exact ((ht2.same s3).chgL hr4 (Chg.upd _)).snoc (by rw [upd_ne (ne_of hr3 hr4 (by intro z; cases z))]; exact hr3)
  · rintro σ H2 ⟨o2, ys, rfl, s2, hr2, ht2⟩
    try walk_at "WP"
    rw [W.hds.len, List.take_length] at ht2
    exact q rw0 ys H2 nr s2 hr2 ht2
end

section
variable {P : Program} {w : World} {K : PySem.W.Frag} {mg : Str → Option Value} {base : Heap}
theorem ok_form (T : Txt K mg) : Cal P w K mg base 2 "form_of" ["row"] spForm := by
  have B := T.bl
  have C_core := ok_core (P := P) (w := w) (base := base) T
  have C_shifted := ok_shifted (P := P) (w := w) (base := base) T
  refine mkCal T.t_form_of sc_form_of (fun vs H Q E h => ?_) (fun f cdv A outer s H vs Q E hr h => ?_)
  · obtain ⟨_, _, rfl, _⟩ := h
    rfl
  obtain ⟨r, row, rfl, hr0, rl, rb, q0, q1⟩ := h
  refine ⟨_, ((@pss_cons _ _ _ _ _ (@ps_setComp0 _ _ _ _ (1) _ _ _ _ _ _ _ (["number"]) (1) ([]) _ _ _ rfl (@pi_tup _ _ _ _ (pv 0)) (fun nd C s H fp => ⟨(@pg_name _ _ (0) _ nd rfl (by first | exact Or.inl rfl | exact Or.inr rfl) (by first | exact .inl rfl | exact .inr rfl | assumption)), (@pn_one _ _ _ (@pt_cmpR _ _ _ _ _ _ _ _ op_ne (pv 0) pe_int (@nomark _ _ (by decide) (by decide)))), (@pe_cal _ _ _ _ _ _ _ _ _ _ C_core hr rfl (@pa_cons _ _ _ _ _ (pv 0) pa_nil (by rfl)) (by decide) (by rfl) (by rfl))⟩) (by decide +kernel) (by first | rfl | decide +kernel) (by first | rfl | decide +kernel) rfl (fun _ => rfl) sc_form_of.nd rfl (by first | exact Or.inl rfl | exact Or.inr rfl) (by first | exact .inl rfl | exact .inr rfl) rfl) (@pss_cons _ _ _ _ _ (@ps_if _ _ _ _ _ _ _ _ (@pt_cmpR _ _ _ _ _ _ _ _ (@op_eqE _ _ hr) (pv 1) (@pe_lst _ _ _ _ pa_nil) (@nomark _ _ (by decide) (by decide))) (@pss_one _ _ _ (@ps_ret _ _ _ _ (@pe_tup _ _ _ _ _ (@pa_cons _ _ _ _ _ (pv 0) (@pa_cons _ _ _ _ _ pe_int (@pa_cons _ _ _ _ _ pe_int pa_nil (by rfl)) (by rfl)) (by rfl))))) pss_nil) (@pss_cons _ _ _ _ _ (@ps_set _ _ (2) _ _ _ _ sc_form_of.nd rfl (by first | exact Or.inl rfl | exact Or.inr rfl) (@pe_callB _ _ _ _ _ _ _ _ _ (@call_minG _ rfl) rfl B.min bo_min (@pa_cons _ _ _ _ _ (@pe_comp0 _ _ _ _ _ _ _ _ (["part"]) (1) ([]) _ _ _ rfl (@pi_list _ _ _ _ (pv 1)) (fun nd C s H fp => ⟨(@pg_name _ _ (0) _ nd rfl (by first | exact Or.inl rfl | exact Or.inr rfl) (by first | exact .inl rfl | exact .inr rfl | assumption)), pn_nil, (@pe_ix _ _ _ _ _ _ _ ix_U (pv 0) pe_int (fun _ _ => rfl))⟩) (by decide +kernel) (by first | rfl | decide +kernel) (by first | rfl | decide +kernel) rfl (fun _ => rfl)) pa_nil (by rfl)) (by decide) (by decide) (by rfl) (by rfl)) (by rfl) (by first | exact .inl rfl | exact .inr rfl | assumption)) (@pss_cons _ _ _ _ _ (@ps_set _ _ (3) _ _ _ _ sc_form_of.nd rfl (by first | exact Or.inl rfl | exact Or.inr rfl) (@pe_ix _ _ _ _ _ _ _ ix_U (@pe_ix _ _ _ _ _ _ _ ix_M (pv 1) pe_int (fun _ _ => rfl)) pe_int (fun _ _ => rfl)) (by rfl) (by first | exact .inl rfl | exact .inr rfl | assumption)) (@pss_one _ _ _ (@ps_ret _ _ _ _ (@pe_tup _ _ _ _ _ (@pa_cons _ _ _ _ _ (@pe_callTy _ _ _ _ _ _ _ _ _ call_tuple_of rfl B.tuple bo_tuple (@pa_cons _ _ _ _ _ (@pe_comp0 _ _ _ _ _ _ _ _ (["number", "sign", "shift"]) (1) ([3, 2]) _ _ _ rfl (@pi_tup _ _ _ _ (pv 0)) (fun nd C s H fp => ⟨(@pg_name _ _ (0) _ nd rfl (by first | exact Or.inl rfl | exact Or.inr rfl) (by first | exact .inl rfl | exact .inr rfl | assumption)), pn_nil, (@pe_op _ _ _ _ _ _ _ _ op_mulB (pv 1) (@pe_cal _ _ _ _ _ _ _ _ _ _ C_shifted hr rfl (@pa_cons _ _ _ _ _ (pv 0) (@pa_cons _ _ _ _ _ (@pe_un _ _ _ _ _ _ un_neg (pv 2)) pa_nil (by rfl)) (by rfl)) (by decide) (by rfl) (by rfl)))⟩) (by decide +kernel) (by first | rfl | decide +kernel) (by first | rfl | decide +kernel) rfl (fun _ => rfl)) pa_nil (by rfl)) (by decide) (by decide) (by rfl) (by rfl)) (@pa_cons _ _ _ _ _ (pv 2) (@pa_cons _ _ _ _ _ (pv 3) pa_nil (by rfl)) (by rfl)) (by rfl)))))))))), ?_⟩
  rw [show start ["row", "cores", "shift", "sign"] [.ref r] = [some (.ref r), none, none, none] from rfl]
  refine seq_in fun R_ hR_ => ?_
  try walk_at "WP"
  refine ⟨⟨_, SqT.of hr0⟩, ?_⟩
  refine comp_tupF (fun x => decide (x ≠ 0)) coT hr0 (by omega) (fun n H' R hn s' hR => ?_) (fun n H' R hn s' hR => ?_) (fun c ws H1 nc s1 hc ht => ?_)
  · try walk_at "WP"
    have e : (!decide (n = 0)) = decide (n ≠ 0) := by simp
    rw [e]
    exact hR
  · try walk_at "WP"
    refine ⟨n, rfl, fun p np => ?_⟩
    exact hR p _ (same_new np _) upd_same
  have fl : (row.filter fun x => decide (x ≠ 0)).length ≤ row.length := List.length_filter_le _ _
  (try (walk_at "WP")); (try (refine seq_out hR_ ?_)); (try (refine seq_in fun R_ hR_ => ?_)); (try (walk_at "WP"))
  intro e ne
  refine abs_ ne fun H2 s2 h2 => ?_
  have s12 := s1.trans s2
  refine ⟨ws, SqL.of (s2 _ _ hc), SqL.of h2, ?_⟩
  (try (walk_at "WP")); (try (refine seq_out hR_ ?_)); (try (refine seq_in fun R_ hR_ => ?_)); (try (walk_at "WP"))
  have wl := ht.len
  refine ite2 (fun z => ?_) (fun z => ?_)
  · intro t nt
    refine q0 (fun x hx => Classical.byContradiction fun x0 => ?_) t _ (s12.trans (same_new nt _)) upd_same
    have := List.length_pos_of_mem (List.mem_filter.mpr ⟨hx, decide_eq_true x0⟩ : x ∈ row.filter fun x => decide (x ≠ 0))
    omega
  obtain ⟨n, rest, ef⟩ : ∃ n rest, (row.filter fun x => decide (x ≠ 0)) = n :: rest := List.exists_cons_of_length_pos (by omega)
  obtain ⟨i0, hi0, n0, hz0⟩ := first_nz ef
  have hc2 := s2 _ _ hc
  have ht2 := ht.same s2
  have mf : ∀ x, x ∈ (row.filter fun x => decide (x ≠ 0)) ↔ x ∈ row ∧ x ≠ 0 := fun x => by rw [List.mem_filter, decide_eq_true_eq]
  (try (walk_at "WP")); (try (refine seq_out hR_ ?_)); (try (refine seq_in fun R_ hR_ => ?_)); (try (walk_at "WP"))
  refine ⟨⟨_, SqL.of hc2⟩, ?_⟩
  refine comp_hi shN hc2 ht2 (by omega) (fun t x H' R hx htx s' hR => ?_) (fun l H3 nl s3 h3 => ?_)
  · have htx' := s' _ _ htx
    unfold coT at htx'
    (iterate 5 ((try (walk_at "WP")); (try (simp only [htx', Option.some.injEq, HO.tup.injEq, HO.lst.injEq, HO.dK.injEq, exists_eq_left', exists_eq_left])))); (try (walk_at "WP"))
    exact hR
  refine ⟨l, _, rfl, h3, by rw [ef]; simp, fun v vm vg => ?_⟩
  obtain ⟨x1, hx1, ev⟩ := List.mem_map.mp vm
  have hx1' := (mf x1).mp hx1
  obtain ⟨k, ek, k4⟩ := sh_le hx1'.2 (rb x1 hx1'.1)
  have vk : v = k := by rw [← ev, ek]
  subst vk
  have hmin : ∀ x ∈ row, x ≠ 0 → (k : Int) ≤ shN x := fun x hx x0 => vg _ (List.mem_map.mpr ⟨x, (mf x).mpr ⟨hx, x0⟩, rfl⟩)
  have F := frm_of hmin ⟨x1, hx1'.1, hx1'.2, ek⟩ ⟨i0, n, hi0, n0, rfl, hz0⟩
  have e13 := s12.trans s3
  obtain ⟨t0, hw0, ht0⟩ := ht.at_ 0 n (by rw [ef]; rfl)
  have ht3 := (s2.trans s3) _ _ ht0
  unfold coT at ht3
  (try (walk_at "WP")); (try (refine seq_out hR_ ?_)); (try (refine seq_in fun R_ hR_ => ?_)); (try (walk_at "WP"))
  refine ⟨ws, (s2.trans s3) _ _ hc, .ref t0, atI_nat (j := 0) hw0, ?_⟩
  (iterate 5 ((try (walk_at "WP")); (try (simp only [ht3, Option.some.injEq, HO.tup.injEq, HO.lst.injEq, HO.dK.injEq, exists_eq_left', exists_eq_left])))); (try (walk_at "WP"))
  (try (walk_at "WP")); (try (refine seq_out hR_ ?_)); (try (refine seq_in fun R_ hR_ => ?_)); (try (walk_at "WP"))
  refine ⟨⟨_, SqT.of (e13 _ _ hr0)⟩, ?_⟩
  refine comp_T (f := fmV (sgN n) k) (SqT.of (e13 _ _ hr0)) (by rw [List.length_map]; exact le_big (by omega)) (fun y H' R hy hS' hR => ?_) (fun acc hacc => ?_)
  · obtain ⟨x, hx, rfl⟩ := List.mem_map.mp hy
    rw [show capV [3, 2] [some (V.ref r), some (V.ref c), some (V.int (k : Int)), some (V.int (sgN n))] = [some (V.int (sgN n)), some (V.int (k : Int))] from rfl]
    try walk_at "WP"
    refine ⟨x, _, rfl, by omega, by omega, Nat.lt_of_lt_of_le (rb x hx) (Nat.pow_le_pow_right (by decide) (by decide)), ?_⟩
    rw [shV_div (div_row hmin x hx)]
    try walk_at "WP"
    refine ⟨?_, hR⟩
    rcases F.sg with z | z <;> rw [z] <;> exact mul_l (by decide) (by decide)
  rw [fmV_map]
  refine abs_ hacc fun H4 s4 h4 => ?_
  try walk_at "WP"
  refine ⟨_, .inl ⟨SqL.of h4, fun f nf => ?_⟩⟩
  refine abs_ nf fun H5 s5 h5 => fun t nt => ?_
  exact q1 t f _ k (sgN n) _ (((e13.trans s4).trans s5).trans (same_new nt _)) upd_same ((same_new nt _) _ _ h5) F
end

section
variable {P : Program} {w : World} {K : PySem.W.Frag} {mg : Str → Option Value} {base : Heap}
theorem ok_countK (T : Txt K mg) : Cal P w K mg base 1 "thing_count" ["web"] (spCntK K) := by
  have B := T.bl
  refine mkCal T.t_thing_count sc_thing_count (fun vs H Q E h => ?_) (fun f cdv A outer s H vs Q E hr h => ?_)
  · obtain ⟨x, _, _, _, _, _, _, _, rfl, _⟩ := h
    rfl
  obtain ⟨x, dl, gl, ins, us, ds, os, gs, rfl, W, q⟩ := h
  refine ⟨_, ((@pss_one _ _ _ (@ps_ret _ _ _ _ (@pe_op _ _ _ _ _ _ _ _ op_add (@pe_ix _ _ _ _ _ _ _ ix_U (pv 0) pe_int (fun _ _ => rfl)) (@pe_callB _ _ _ _ _ _ _ _ _ call_lenM rfl B.len bo_len (@pa_cons _ _ _ _ _ (@pe_ix _ _ _ _ _ _ _ ix_U (pv 0) pe_int (fun _ _ => rfl)) pa_nil (by rfl)) (by decide) (by decide) (by rfl) (by rfl)))))), ?_⟩
  rw [show start ["web"] [.ref x] = [some (.ref x)] from rfl]
  have h1 := W.tup
  have h2 := W.dll
  (iterate 5 ((try (walk_at "WP")); (try (simp only [h1, h2, Option.some.injEq, HO.tup.injEq, HO.lst.injEq, HO.dK.injEq, exists_eq_left', exists_eq_left])))); (try (walk_at "WP"))
  rw [W.hds.len]
  exact q
end

section
variable {P : Program} {w : World} {K : PySem.W.Frag} {mg : Str → Option Value} {base : Heap}
theorem ok_darrK (T : Txt K mg) : Cal P w K mg base 2 "deed_arrows" ["web"] (spDArrK K) := by
  have B := T.bl
  have C_second_sign := ok_second (P := P) (w := w) (base := base) T
  refine mkCal T.t_deed_arrows sc_deed_arrows (fun vs H Q E h => ?_) (fun f cdv A outer s H vs Q E hr h => ?_)
  · obtain ⟨x, _, _, _, _, _, _, _, rfl, _⟩ := h
    rfl
  obtain ⟨x, dl, gl, ins, us, ds, os, gs, rfl, W, hlen, q⟩ := h
  refine ⟨_, ((@pss_cons _ _ _ _ _ (@ps_set _ _ (1) _ _ _ _ sc_deed_arrows.nd rfl (by first | exact Or.inl rfl | exact Or.inr rfl) (@pe_lst _ _ _ _ pa_nil) (by rfl) (by first | exact .inl rfl | exact .inr rfl | assumption)) (@pss_cons _ _ _ _ _ (@ps_for _ _ _ _ _ _ _ _ PassesOwn.never rfl (@pi_enum _ _ _ _ _ _ _ _ rfl B.enumerate (@pa_cons _ _ _ _ _ (@pe_ix _ _ _ _ _ _ _ ix_U (pv 0) pe_int (fun _ _ => rfl)) pa_nil (by rfl)) (by rfl)) (@pg_tupM _ _ _ _ _ 2 rfl (@pgs_cons _ _ _ _ _ (@pg_name _ _ (2) _ sc_deed_arrows.nd rfl (by first | exact Or.inl rfl | exact Or.inr rfl) (by first | exact .inl rfl | exact .inr rfl | assumption)) (@pgs_cons _ _ _ _ _ (@pg_name _ _ (3) _ sc_deed_arrows.nd rfl (by first | exact Or.inl rfl | exact Or.inr rfl) (by first | exact .inl rfl | exact .inr rfl | assumption)) pgs_nil (by rfl)) (by rfl)) (by rfl) (by rfl)) (@pss_cons _ _ _ _ _ (@ps_set _ _ (4) _ _ _ _ sc_deed_arrows.nd rfl (by first | exact Or.inl rfl | exact Or.inr rfl) (@pe_op _ _ _ _ _ _ _ _ op_add (@pe_ix _ _ _ _ _ _ _ ix_U (pv 0) pe_int (fun _ _ => rfl)) (pv 2)) (by rfl) (by first | exact .inl rfl | exact .inr rfl | assumption)) (@pss_cons _ _ _ _ _ (@ps_expr _ _ _ _ (@pe_bm _ _ _ _ _ _ _ _ _ _ _ _ PySem.F.plainAttrs_list PySem.F.slot_list_append PySem.F.type_list_append mt_append (pv 1) (@pa_cons _ _ _ _ _ (@pe_tup _ _ _ _ _ (@pa_cons _ _ _ _ _ (@pe_ix _ _ _ _ _ _ _ ix_U (pv 3) pe_int (fun _ _ => rfl)) (@pa_cons _ _ _ _ _ (pv 4) (@pa_cons _ _ _ _ _ (@pe_ix _ _ _ _ _ _ _ ix_U (pv 3) pe_int (fun _ _ => rfl)) (@pa_cons _ _ _ _ _ pe_int pa_nil (by rfl)) (by rfl)) (by rfl)) (by rfl))) pa_nil (by rfl)) (by rfl) (by rfl) (by rfl) (by rfl) (by rfl)) (by rfl)) (@pss_one _ _ _ (@ps_expr _ _ _ _ (@pe_bm _ _ _ _ _ _ _ _ _ _ _ _ PySem.F.plainAttrs_list PySem.F.slot_list_append PySem.F.type_list_append mt_append (pv 1) (@pa_cons _ _ _ _ _ (@pe_tup _ _ _ _ _ (@pa_cons _ _ _ _ _ (@pe_ix _ _ _ _ _ _ _ ix_U (pv 3) pe_int (fun _ _ => rfl)) (@pa_cons _ _ _ _ _ (pv 4) (@pa_cons _ _ _ _ _ (@pe_ix _ _ _ _ _ _ _ ix_U (pv 3) pe_int (fun _ _ => rfl)) (@pa_cons _ _ _ _ _ (@pe_cal _ _ _ _ _ _ _ _ _ _ C_second_sign hr rfl (@pa_cons _ _ _ _ _ (pv 3) pa_nil (by rfl)) (by decide) (by rfl) (by rfl)) pa_nil (by rfl)) (by rfl)) (by rfl)) (by rfl))) pa_nil (by rfl)) (by rfl) (by rfl) (by rfl) (by rfl) (by rfl)) (by rfl))))) (by intro _ ; rfl)) (@pss_one _ _ _ (@ps_ret _ _ _ _ (pv 1)))))), ?_⟩
  rw [show start ["web", "told", "place", "deed", "thing"] [.ref x] = [some (.ref x), none, none, none, none] from rfl]
  try walk_at "WP"
  intro r hr0
  have sr := same_new hr0 (.lst [])
  have W1 := W.same sr
  have h1 := W1.tup
  (iterate 5 ((try (walk_at "WP")); (try (simp only [h1, Option.some.injEq, HO.tup.injEq, HO.lst.injEq, HO.dK.injEq, exists_eq_left', exists_eq_left])))); (try (walk_at "WP"))
  refine ⟨_, SqL.of W1.dll, ?_⟩
  refine forE (xs := us) (fun i σ H1 => ∃ (o2 o3 o4 : Option V) (ws : List V), σ = [some (.ref x), some (.ref r), o2, o3, o4] ∧ Same H H1 ∧ H1 r = some (.lst ws) ∧ HTs aTup H1 ws (arrF ins 0 (ds.take i))) ⟨none, none, none, [], rfl, sr, upd_same, hts_nil⟩ ?_ ?_ ?_
  · rintro i σ H1 _ ⟨_, _, _, _, _, s1, _⟩
    exact SqL.of (s1 _ _ W.dll)
  · rintro i v t σ H1 N hv ht ⟨o2, o3, o4, ws, rfl, s1, hr1, ha⟩ hN
    have hi : i < ds.length := by rw [← W.hds.len]; exact (List.getElem?_eq_some_iff.mp hv).1
    obtain ⟨y, hy1, hy2⟩ := W.hds.at_ i _ (List.getElem?_eq_getElem hi)
    have hdi : ds[i]? = some ds[i] := List.getElem?_eq_getElem hi
    generalize ds[i] = d at hy2 hdi
    rw [hv] at hy1
    cases hy1
    have st := same_new ht (.tup [V.int (i : Int), .ref y])
    have W2 := (W.same s1).same st
    have h2 := W2.tup
    have hy3 : upd H1 t (.tup [V.int (i : Int), .ref y]) y = some (.tup (wTup d)) := st _ _ (s1 _ _ hy2)
    have hr2 := st _ _ hr1
    have ha2 := ha.same st
    have s2 := s1.trans st
    have h9 : upd H1 t (.tup [V.int (i : Int), .ref y]) t = some (.tup [V.int (i : Int), .ref y]) := upd_same
    generalize upd H1 t (.tup [V.int (i : Int), .ref y]) = H2 at *
    have hy3' := hy3
    unfold wTup at hy3'
    (iterate 5 ((try (walk_at "WP")); (try (simp only [h9, h2, hy3', Option.some.injEq, HO.tup.injEq, HO.lst.injEq, HO.dK.injEq, exists_eq_left', exists_eq_left])))); (try (walk_at "WP"))
    have hwl : ws.length = 2 * i := by rw [ha2.len, arrF_len, List.length_take]; omega
    refine ⟨ty_list hr2, fun p1 hp1 => ?_⟩
    have s3 := same_new hp1 (.tup [V.int (d.a : Int), V.int ((ins : Int) + (i : Int)), V.int d.s, V.int 1])
    have n1 : r ≠ p1 := ne_of_none hr2 hp1
    refine ⟨ws, by rw [upd_ne n1]; exact hr2, Nat.lt_of_lt_of_le (by omega : ws.length < 1000) (le_size (by decide)), ty_list upd_same, ?_⟩
    have hr3 := s3 _ _ hr2
    have ha3 := (ha2.same s3).chgL hr3 (Chg.upd (.lst (ws ++ [.ref p1])))
    have hp1t : (upd (upd H2 p1 (.tup [V.int (d.a : Int), V.int ((ins : Int) + (i : Int)), V.int d.s, V.int 1])) r (.lst (ws ++ [.ref p1]))) p1 = some (.tup (aTup ⟨d.a, ins + i, d.s, 1⟩)) := by
      rw [upd_ne n1.symm, upd_same]
      unfold aTup
      rw [show ((ins + i : Nat) : Int) = (ins : Int) + (i : Int) by omega]
    have ha4 := ha3.snoc (x := (⟨d.a, ins + i, d.s, 1⟩ : Ar)) hp1t
    have hy4 : (upd (upd H2 p1 (.tup [V.int (d.a : Int), V.int ((ins : Int) + (i : Int)), V.int d.s, V.int 1])) r (.lst (ws ++ [.ref p1]))) y = some (.tup (wTup d)) := by
      rw [upd_ne (ne_of hy3 hr2 (by intro z; cases z))]
      exact s3 _ _ hy3
    have s4 : Same H (upd (upd H2 p1 (.tup [V.int (d.a : Int), V.int ((ins : Int) + (i : Int)), V.int d.s, V.int 1])) r (.lst (ws ++ [.ref p1]))) := same_upd hr0 (s2.trans s3)
    have hr4 : (upd (upd H2 p1 (.tup [V.int (d.a : Int), V.int ((ins : Int) + (i : Int)), V.int d.s, V.int 1])) r (.lst (ws ++ [.ref p1]))) r = some (.lst (ws ++ [.ref p1])) := upd_same
    generalize upd (upd H2 p1 (.tup [V.int (d.a : Int), V.int ((ins : Int) + (i : Int)), V.int d.s, V.int 1])) r (.lst (ws ++ [.ref p1])) = H3 at s4 hr4 hy4 ha4 ⊢
    refine ⟨_, hy4, _, rfl, _, hy4, _, rfl, y, d, rfl, hy4, fun p2 hp2 => ?_⟩
    have s5 := same_new hp2 (.tup [V.int (d.b : Int), V.int ((ins : Int) + (i : Int)), V.int d.t, V.int (sgW d.w)])
    have n2 : r ≠ p2 := ne_of_none hr4 hp2
    refine ⟨_, by rw [upd_ne n2]; exact hr4, Nat.lt_of_lt_of_le (by simp; omega : (ws ++ [V.ref p1]).length < 1000) (le_size (by decide)), ?_⟩
    have hr5 := s5 _ _ hr4
    have hp2t : (upd (upd H3 p2 (.tup [V.int (d.b : Int), V.int ((ins : Int) + (i : Int)), V.int d.t, V.int (sgW d.w)])) r (.lst (ws ++ [.ref p1] ++ [.ref p2]))) p2 = some (.tup (aTup ⟨d.b, ins + i, d.t, sgW d.w⟩)) := by
      rw [upd_ne n2.symm, upd_same]
      unfold aTup
      rw [show ((ins + i : Nat) : Int) = (ins : Int) + (i : Int) by omega]
    have ha5 := ((ha4.same s5).chgL hr5 (Chg.upd (.lst (ws ++ [.ref p1] ++ [.ref p2])))).snoc (x := (⟨d.b, ins + i, d.t, sgW d.w⟩ : Ar)) hp2t
    refine hN _ _ ⟨_, _, _, _, rfl, same_upd hr0 (s4.trans s5), upd_same, ?_⟩
    have tk : ds.take (i + 1) = ds.take i ++ [d] := by rw [List.take_add_one, hdi]; rfl
    rw [tk, arrF_app, List.length_take, Nat.min_eq_left (by omega), Nat.zero_add, show arrF ins i [d] = [(⟨d.a, ins + i, d.s, 1⟩ : Ar)] ++ [(⟨d.b, ins + i, d.t, sgW d.w⟩ : Ar)] from rfl, ← List.append_assoc]
    exact ha5
  · rintro σ H1 ⟨o2, o3, o4, ws, rfl, s1, hr1, ha⟩
    try walk_at "WP"
    rw [W.hds.len, List.take_length] at ha
    exact q r ws H1 hr0 s1 hr1 ha
end

section
variable {P : Program} {w : World} {K : PySem.W.Frag} {mg : Str → Option Value} {base : Heap}
theorem ok_usedK (T : Txt K mg) : Cal P w K mg base 3 "used" ["web"] (spUsedK K) := by
  have B := T.bl
  have C_thing_count := (ok_countK (P := P) (w := w) (base := base) T).mono (k := 2) (by decide)
  have C_deed_arrows := ok_darrK (P := P) (w := w) (base := base) T
  refine mkCal T.t_used sc_used (fun vs H Q E h => ?_) (fun f cdv A outer s H vs Q E hr h => ?_)
  · obtain ⟨x, _, _, _, _, _, _, _, rfl, _⟩ := h
    rfl
  obtain ⟨x, dl, gl, ins, us, ds, os, gs, rfl, W, ok, q⟩ := h
  refine ⟨_, ((@pss_cons _ _ _ _ _ (@ps_setComp0 _ _ _ _ (1) _ _ _ _ _ _ _ (["thing"]) (1) ([]) _ _ _ rfl (@pi_range1 _ _ _ _ _ _ rfl B.range (@pa_cons _ _ _ _ _ (@pe_cal _ _ _ _ _ _ _ _ _ _ C_thing_count hr rfl (@pa_cons _ _ _ _ _ (pv 0) pa_nil (by rfl)) (by decide) (by rfl) (by rfl)) pa_nil (by rfl)) (by rfl)) (fun nd C s H fp => ⟨(@pg_name _ _ (0) _ nd rfl (by first | exact Or.inl rfl | exact Or.inr rfl) (by first | exact .inl rfl | exact .inr rfl | assumption)), pn_nil, pe_bl⟩) (by decide +kernel) (by first | rfl | decide +kernel) (by first | rfl | decide +kernel) rfl (fun _ => rfl) sc_used.nd rfl (by first | exact Or.inl rfl | exact Or.inr rfl) (by first | exact .inl rfl | exact .inr rfl) rfl) (@pss_mid _ _ _ _ _ (@ps_for _ _ _ _ _ _ _ _ PassesOwn.never rfl (@pi_list _ _ _ _ (@pe_ix _ _ _ _ _ _ _ ix_U (pv 0) pe_int (fun _ _ => rfl))) (@pg_tupK _ K _ _ _ _ 3 rfl (@pgs_cons _ _ _ _ _ (@pg_name _ _ (2) _ sc_used.nd rfl (by first | exact Or.inl rfl | exact Or.inr rfl) (by first | exact .inl rfl | exact .inr rfl | assumption)) (@pgs_cons _ _ _ _ _ (@pg_name _ _ (3) _ sc_used.nd rfl (by first | exact Or.inl rfl | exact Or.inr rfl) (by first | exact .inl rfl | exact .inr rfl | assumption)) (@pgs_cons _ _ _ _ _ (@pg_name _ _ (4) _ sc_used.nd rfl (by first | exact Or.inl rfl | exact Or.inr rfl) (by first | exact .inl rfl | exact .inr rfl | assumption)) pgs_nil (by rfl)) (by rfl)) (by rfl)) (by rfl) (by rfl) (by rfl)) (@pss_one _ _ _ (@ps_if _ _ _ _ _ _ _ _ (@pt_cmpR _ _ _ _ _ _ _ _ op_ne (pv 4) pe_int (@nomark _ _ (by decide) (by decide))) (@pss_one _ _ _ (@ps_asg _ _ _ _ _ _ pe_bl (@pg_sub _ _ _ _ _ _ _ (pv 1) (pv 2) set_list (by intro _ ; rfl)) (by rfl) (by rfl) (by rfl))) pss_nil)) (by intro _ ; rfl)) (@pss_cons _ _ _ _ _ (@ps_for _ _ _ _ _ _ _ _ PassesOwn.never rfl (@pi_rev _ _ _ _ _ _ rfl B.reversed (@pa_cons _ _ _ _ _ (@pe_cal _ _ _ _ _ _ _ _ _ _ C_deed_arrows hr rfl (@pa_cons _ _ _ _ _ (pv 0) pa_nil (by rfl)) (by decide) (by rfl) (by rfl)) pa_nil (by rfl)) (by rfl)) (@pg_tupM _ _ _ _ _ 4 rfl (@pgs_cons _ _ _ _ _ (@pg_name _ _ (5) _ sc_used.nd rfl (by first | exact Or.inl rfl | exact Or.inr rfl) (by first | exact .inl rfl | exact .inr rfl | assumption)) (@pgs_cons _ _ _ _ _ (@pg_name _ _ (6) _ sc_used.nd rfl (by first | exact Or.inl rfl | exact Or.inr rfl) (by first | exact .inl rfl | exact .inr rfl | assumption)) (@pgs_cons _ _ _ _ _ (@pg_name _ _ (3) _ sc_used.nd rfl (by first | exact Or.inl rfl | exact Or.inr rfl) (by first | exact .inl rfl | exact .inr rfl | assumption)) (@pgs_cons _ _ _ _ _ (@pg_name _ _ (4) _ sc_used.nd rfl (by first | exact Or.inl rfl | exact Or.inr rfl) (by first | exact .inl rfl | exact .inr rfl | assumption)) pgs_nil (by rfl)) (by rfl)) (by rfl)) (by rfl)) (by rfl) (by rfl)) (@pss_one _ _ _ (@ps_if _ _ _ _ _ _ _ _ (@pt_val _ _ _ (@pe_ix _ _ _ _ _ _ _ ix_M (pv 1) (pv 6) (fun _ _ => rfl)) (by intro _ ; rfl)) (@pss_one _ _ _ (@ps_asg _ _ _ _ _ _ pe_bl (@pg_sub _ _ _ _ _ _ _ (pv 1) (pv 5) set_list (by intro _ ; rfl)) (by rfl) (by rfl) (by rfl))) pss_nil)) (by intro _ ; rfl)) (@pss_one _ _ _ (@ps_ret _ _ _ _ (pv 1))))))), ?_⟩
  rw [show start ["web", "told", "thing", "shift", "sign", "start", "goal"] [.ref x] = [some (.ref x), none, none, none, none, none, none] from rfl]
  try walk_at "WP"
  have i1 := ok.i2
  have d1 := ok.dl
  refine ⟨x, dl, gl, ins, us, ds, os, gs, rfl, W, ?_⟩
  try walk_at "WP"
  refine ⟨by omega, by omega, ?_⟩
  rw [show ((ins : Int) + ((ds.length : Nat) : Int)).toNat = ins + ds.length by omega]
  refine comp_R (f := fun _ => some (V.bl false)) (le_size (by omega)) (fun y H' R hy hS' hR => ?_) (fun tl htl => ?_)
  · obtain ⟨n, hn, rfl⟩ := List.mem_map.mp hy
    try walk_at "WP"
    exact hR
  have e0 : (rngV 0 (ins + ds.length)).filterMap (fun _ => some (V.bl false)) = (List.replicate (ins + ds.length) false).map V.bl := by
    rw [filterMap_some, List.map_const', rngV_len, List.map_replicate]
  rw [e0]
  have s1 := same_new htl (.lst ((List.replicate (ins + ds.length) false).map V.bl))
  have htl1 : upd H tl (.lst ((List.replicate (ins + ds.length) false).map V.bl)) tl = some (.lst ((List.replicate (ins + ds.length) false).map V.bl)) := upd_same
  generalize upd H tl (.lst ((List.replicate (ins + ds.length) false).map V.bl)) = H1 at s1 htl1 ⊢
  try walk_at "WP"
  refine mid_of (fun σ H2 => ∃ (o2 o3 o4 o5 o6 : Option V) (bs : List Bool), σ = [some (.ref x), some (.ref tl), o2, o3, o4, o5, o6] ∧ Same H H2 ∧ H2 tl = some (.lst (bs.map V.bl)) ∧ Ps ins ds gs 0 bs) (fun N hN => ?_) ?_
  · have h1 := (W.same s1).tup
    (iterate 5 ((try (walk_at "WP")); (try (simp only [h1, Option.some.injEq, HO.tup.injEq, HO.lst.injEq, HO.dK.injEq, exists_eq_left', exists_eq_left])))); (try (walk_at "WP"))
    refine ⟨⟨_, SqL.of (W.same s1).gll⟩, ?_⟩
    refine forL (xs := os) (fun i σ H2 => ∃ (o2 o3 o4 : Option V) (bs : List Bool), σ = [some (.ref x), some (.ref tl), o2, o3, o4, none, none] ∧ Same H H2 ∧ H2 tl = some (.lst (bs.map V.bl)) ∧ Rt ins ds gs i bs) ⟨none, none, none, _, rfl, s1, htl1, rt_zero⟩ ?_ ?_ ?_
    · rintro i σ H2 _ ⟨_, _, _, _, _, s2, _⟩
      exact SqL.of (W.same s2).gll
    · rintro i v σ H2 N2 hv ⟨o2, o3, o4, bs, rfl, s2, ht2, R2⟩ hN2
      have hi : i < gs.length := by rw [← W.hgs.len]; exact (List.getElem?_eq_some_iff.mp hv).1
      obtain ⟨y, hy1, hy2⟩ := W.hgs.at_ i _ (List.getElem?_eq_getElem hi)
      have hgi : gs[i]? = some gs[i] := List.getElem?_eq_getElem hi
      generalize gs[i] = g at hy2 hgi
      rw [hv] at hy1
      cases hy1
      have hy3 := s2.seqT hy2
      unfold gTp at hy3
      have hth := ok.gk g (List.mem_of_getElem? hgi)
      try walk_at "WP"
      refine ⟨_, hy3, rfl, ?_⟩
      (iterate 5 ((try (walk_at "WP")); (try (simp only [ht2, Option.some.injEq, HO.tup.injEq, HO.lst.injEq, HO.dK.injEq, exists_eq_left', exists_eq_left])))); (try (walk_at "WP"))
      have R3 := R2.step hgi hth
      refine ite2 (fun z => ?_) (fun z => ?_)
      · rw [if_neg z] at R3
        refine ⟨g.th, by rw [List.length_map, R2.len]; exact ixN_nat hth, ?_⟩
        refine hN2 _ _ ⟨_, _, _, bs.set g.th true, rfl, same_upd htl s2, ?_, R3⟩
        rw [upd_same, List.map_set]
      · rw [if_pos (Decidable.not_not.mp z)] at R3
        exact hN2 _ _ ⟨_, _, _, bs, rfl, s2, ht2, R3⟩
    · rintro σ H2 ⟨o2, o3, o4, bs, rfl, s2, ht2, R2⟩
      rw [W.hgs.len] at R2
      exact hN _ _ ⟨_, _, _, _, _, bs, rfl, s2, ht2, R2.done⟩
  · rintro σ H2 ⟨o2, o3, o4, o5, o6, bs, rfl, s2, ht2, P2⟩
    try walk_at "WP"
    refine ⟨x, dl, gl, ins, us, ds, os, gs, rfl, W.same s2, by omega, fun r ws H3 hr3 s3 hr4 ha => ?_⟩
    try walk_at "WP"
    refine ⟨_, SqL.of hr4, ?_⟩
    have hwl : ws.length = 2 * ds.length := by rw [ha.len, arrF_len]
    refine forV (xs := ws) (fun i σ H4 => ∃ (o2 o3 o4 o5 o6 : Option V) (bs : List Bool), σ = [some (.ref x), some (.ref tl), o2, o3, o4, o5, o6] ∧ Same H H4 ∧ H4 tl = some (.lst (bs.map V.bl)) ∧ Chg tl H3 H4 ∧ Ps ins ds gs i bs) ⟨_, _, _, _, _, bs, rfl, s2.trans s3, s3 _ _ ht2, Chg.refl, P2⟩ ?_ ?_ ?_
    · rintro i σ H4 _ ⟨_, _, _, _, _, _, _, _, _, c4, _⟩
      exact SqL.of (c4 _ _ (ne_of_none ht2 hr3).symm hr4)
    · rintro i v σ H4 N2 hv ⟨o2, o3, o4, o5, o6, bs, rfl, s4, ht4, c4, P4⟩ hN2
      have hi : i < ws.length := by
        have := (List.getElem?_eq_some_iff.mp hv).1
        rwa [List.length_reverse] at this
      rw [List.getElem?_reverse hi] at hv
      have hj : ws.length - 1 - i < (arrF ins 0 ds).length := by rw [arrF_len]; omega
      obtain ⟨y, hy1, hy2⟩ := ha.at_ _ _ (List.getElem?_eq_getElem hj)
      have haj : (arrF ins 0 ds)[ws.length - 1 - i]? = some (arrF ins 0 ds)[ws.length - 1 - i] := List.getElem?_eq_getElem hj
      generalize (arrF ins 0 ds)[ws.length - 1 - i] = ar at hy2 haj
      rw [hv] at hy1
      cases hy1
      have hy3 := c4 _ _ (ne_of hy2 (s3 _ _ ht2) (by intro z; cases z)) hy2
      unfold aTup at hy3
      rw [hwl] at haj
      obtain ⟨b, hb, hlt, P5⟩ := P4.step ok (by omega) haj
      (iterate 5 ((try (walk_at "WP")); (try (simp only [hy3, ht4, Option.some.injEq, HO.tup.injEq, HO.lst.injEq, HO.dK.injEq, exists_eq_left', exists_eq_left])))); (try (walk_at "WP"))
      refine ⟨_, atI_map hb, ?_⟩
      try walk_at "WP"
      cases b with
      | true =>
        rw [if_pos rfl] at P5 ⊢
        refine ⟨ar.st, by rw [List.length_map]; exact ixN_nat hlt, hN2 _ _ ⟨_, _, _, _, _, bs.set ar.st true, rfl, same_upd htl s4, ?_, c4.trans (Chg.upd _), P5⟩⟩
        rw [upd_same, List.map_set]
      | false =>
        rw [if_neg (by decide)] at P5 ⊢
        exact hN2 _ _ ⟨_, _, _, _, _, bs, rfl, s4, ht4, c4, P5⟩
    · rintro σ H4 ⟨o2, o3, o4, o5, o6, bs, rfl, s4, ht4, c4, P4⟩
      try walk_at "WP"
      rw [hwl] at P4
      exact q tl bs H4 htl s4 ht4 P4.done
end
section
variable {P : Program} {w : World} {K : PySem.W.Frag} {mg : Str → Option Value} {base : Heap}
end

section
variable {P : Program} {w : World} {K : PySem.W.Frag} {mg : Str → Option Value} {base : Heap}
theorem ok_isbareK (T : Txt K mg) : Cal P w K mg base 5 "is_bare" ["web"] (spIsBare K) := by
  have B := T.bl
  have C_numbers := ok_nums4 (P := P) (w := w) (base := base) T
  have C_form_of := (ok_form (P := P) (w := w) (base := base) T).mono (k := 4) (by decide)
  have C_used := (ok_usedK (P := P) (w := w) (base := base) T).mono (k := 4) (by decide)
  refine mkCal T.t_is_bare sc_is_bare (fun vs H Q E h => ?_) (fun f cdv A outer s H vs Q E hr h => ?_)
  · obtain ⟨x, _, _, _, _, _, _, _, rfl, _⟩ := h
    rfl
  obtain ⟨x, dl, gl, n, us, ds, os, gs, rfl, W, F, rb, q⟩ := h
  refine ⟨_, ((@pss_cons _ _ _ _ _ (@ps_setComp0 _ _ _ _ (1) _ _ _ _ _ _ _ (["row"]) (1) ([]) _ _ _ rfl (@pi_list _ _ _ _ (@pe_cal _ _ _ _ _ _ _ _ _ _ C_numbers hr rfl (@pa_cons _ _ _ _ _ (pv 0) pa_nil (by rfl)) (by decide) (by rfl) (by rfl))) (fun nd C s H fp => ⟨(@pg_name _ _ (0) _ nd rfl (by first | exact Or.inl rfl | exact Or.inr rfl) (by first | exact .inl rfl | exact .inr rfl | assumption)), pn_nil, (@pe_cal _ _ _ _ _ _ _ _ _ _ C_form_of hr rfl (@pa_cons _ _ _ _ _ (pv 0) pa_nil (by rfl)) (by decide) (by rfl) (by rfl))⟩) (by decide +kernel) (by first | rfl | decide +kernel) (by first | rfl | decide +kernel) rfl (fun _ => rfl) sc_is_bare.nd rfl (by first | exact Or.inl rfl | exact Or.inr rfl) (by first | exact .inl rfl | exact .inr rfl) rfl) (@pss_cons _ _ _ _ _ (@ps_if _ _ _ _ _ _ _ _ (@pt_val _ _ _ (@pe_callB _ _ _ _ _ _ _ _ _ (@call_any _ rfl) rfl B.any bo_any (@pa_cons _ _ _ _ _ (@pe_comp0 _ _ _ _ _ _ _ _ (["form"]) (1) ([]) _ _ _ rfl (@pi_list _ _ _ _ (pv 1)) (fun nd C s H fp => ⟨(@pg_name _ _ (0) _ nd rfl (by first | exact Or.inl rfl | exact Or.inr rfl) (by first | exact .inl rfl | exact .inr rfl | assumption)), pn_nil, (@pe_cmpR _ _ _ _ _ _ _ _ op_eq (@pe_ix _ _ _ _ _ _ _ ix_U (pv 0) pe_int (fun _ _ => rfl)) pe_int (@nomark _ _ (by decide) (by decide)))⟩) (by decide +kernel) (by first | rfl | decide +kernel) (by first | rfl | decide +kernel) rfl (fun _ => rfl)) pa_nil (by rfl)) (by decide) (by decide) (by rfl) (by rfl)) (by intro _ ; rfl)) (@pss_one _ _ _ (@ps_ret _ _ _ _ pe_bl)) pss_nil) (@pss_cons _ _ _ _ _ (@ps_if _ _ _ _ _ _ _ _ (@pt_cmpR _ _ _ _ _ _ _ _ op_lt (@pe_callB _ _ _ _ _ _ _ _ _ call_lenT rfl B.len bo_len (@pa_cons _ _ _ _ _ (@pe_callTy _ _ _ _ _ _ _ _ _ (@call_setTL _ _ rfl hr) rfl B.set bo_set (@pa_cons _ _ _ _ _ (@pe_comp0 _ _ _ _ _ _ _ _ (["form"]) (1) ([]) _ _ _ rfl (@pi_list _ _ _ _ (pv 1)) (fun nd C s H fp => ⟨(@pg_name _ _ (0) _ nd rfl (by first | exact Or.inl rfl | exact Or.inr rfl) (by first | exact .inl rfl | exact .inr rfl | assumption)), pn_nil, (@pe_ix _ _ _ _ _ _ _ ix_U (pv 0) pe_int (fun _ _ => rfl))⟩) (by decide +kernel) (by first | rfl | decide +kernel) (by first | rfl | decide +kernel) rfl (fun _ => rfl)) pa_nil (by rfl)) (by decide) (by decide) (by rfl) (by rfl)) pa_nil (by rfl)) (by decide) (by decide) (by rfl) (by rfl)) (@pe_callB _ _ _ _ _ _ _ _ _ call_lenM rfl B.len bo_len (@pa_cons _ _ _ _ _ (pv 1) pa_nil (by rfl)) (by decide) (by decide) (by rfl) (by rfl)) (@nomark _ _ (by decide) (by decide))) (@pss_one _ _ _ (@ps_ret _ _ _ _ pe_bl)) pss_nil) (@pss_one _ _ _ (@ps_ret _ _ _ _ (@pe_callB _ _ _ _ _ _ _ _ _ (@call_all _ rfl) rfl B.all bo_all (@pa_cons _ _ _ _ _ (@pe_slice _ _ _ _ _ _ _ _ _ _ sl_list (@pe_cal _ _ _ _ _ _ _ _ _ _ C_used hr rfl (@pa_cons _ _ _ _ _ (pv 0) pa_nil (by rfl)) (by decide) (by rfl) (by rfl)) (@po_some _ _ _ (@pe_ix _ _ _ _ _ _ _ ix_U (pv 0) pe_int (fun _ _ => rfl))) po_none) pa_nil (by rfl)) (by decide) (by decide) (by rfl) (by rfl)))))))), ?_⟩
  rw [show start ["web", "forms"] [.ref x] = [some (.ref x), none] from rfl]
  have i1 := F.ok.i1
  have i12 := F.ok.i2
  have dl60 := F.ok.dl
  have lr := rowsW_len n ds
  have h1 := W.tup
  try walk_at "WP"
  refine ⟨x, dl, gl, n, us, ds, os, gs, rfl, W, F, fun nr ys H1 n1 s1 hn1 ht1 => ?_⟩
  refine ⟨nr, rfl, ⟨_, SqL.of hn1⟩, ?_⟩
  refine comp_rel (Rl := fmI) (f := iT) (fun _ _ _ _ h l => h.ls l) hn1 ht1 (by omega) (fun i t row H' R hi ht s' hR => ?_) (fun fl ws H2 n2 s2 h2 lw fm => ?_)
  · try walk_at "WP"
    have hm := List.mem_of_getElem? hi
    refine ⟨t, row, rfl, ht, by rw [F.wd row hm]; omega, fun z hz => rb row hm z hz, fun z t' H5 s5 h5 => ?_, fun t' f' fs k g H5 s5 h5 h5' Fr => ?_⟩
    · exact hR _ _ s5 ⟨t', rfl, .inl ⟨z, t, h5⟩⟩
    · exact hR _ _ s5 ⟨t', rfl, .inr ⟨f', fs, k, g, h5, h5', Fr⟩⟩
  have fmL : FmL H2 ws (rowsW n ds) := ⟨lw, fun i u row a b => fm i u row a b⟩
  obtain ⟨xs, xl, hxs, hfr⟩ := fm_tri fmL
  try walk_at "WP"
  have x72 : xs.length ≤ 72 := by omega
  refine ⟨⟨_, SqL.of h2⟩, ?_⟩
  refine comp_rel (Rl := fun _ u (y : Addr × Int × Int) => u = V.bl (decide (y.2.2 = 0))) (f := tri) (fun _ _ _ _ h _ => h) h2 hxs (by omega) (fun i t y H' R hi ht s' hR => ?_) (fun al vs3 H3 n3 s3 h3 l3 fm3 => ?_)
  · unfold tri at ht
    (iterate 5 ((try (walk_at "WP")); (try (simp only [ht, Option.some.injEq, HO.tup.injEq, HO.lst.injEq, HO.dK.injEq, exists_eq_left', exists_eq_left])))); (try (walk_at "WP"))
    exact hR _ _ (Same.refl _) rfl
  have e3 : vs3 = (xs.map fun y => decide (y.2.2 = 0)).map V.bl := by
    refine List.ext_getElem? fun i => ?_
    rw [List.getElem?_map, List.getElem?_map]
    by_cases c : i < xs.length
    · have ex := List.getElem?_eq_getElem c
      have ev := List.getElem?_eq_getElem (l := vs3) (i := i) (by omega)
      rw [ex, ev, fm3 i _ _ ev ex]
      rfl
    · rw [List.getElem?_eq_none (by omega), List.getElem?_eq_none (l := xs) (by omega)]
      rfl
  rw [e3] at h3
  try walk_at "WP"
  refine ⟨al, _, rfl, h3, ?_⟩
  try walk_at "WP"
  have s13 := (s1.trans s2).trans s3
  refine ite2 (fun z => ?_) (fun z => ?_)
  · refine q _ _ s13 ⟨fun y => (by cases y), fun Bq => ?_⟩
    obtain ⟨b, hb, hb'⟩ := List.any_eq_true.mp z
    obtain ⟨y, hy, rfl⟩ := List.mem_map.mp hb
    have g0 : y.2.2 = 0 := of_decide_eq_true hb'
    obtain ⟨i, hi⟩ := List.getElem?_of_mem hy
    have il := (List.getElem?_eq_some_iff.mp hi).1
    have er := List.getElem?_eq_getElem (l := rowsW n ds) (i := i) (by omega)
    rcases hfr i y _ hi er with ⟨c, _⟩ | ⟨fs, k, _, Fr⟩
    · obtain ⟨v, hv, hv'⟩ := Bq.1 _ (List.mem_of_getElem? er)
      exact absurd (c v hv) hv'
    · exact absurd g0 Fr.nz.1
  have ng : ∀ y ∈ xs, y.2.2 ≠ 0 := fun y hy c => z (List.any_eq_true.mpr ⟨_, List.mem_map.mpr ⟨y, hy, rfl⟩, decide_eq_true c⟩)
  obtain ⟨fss, fl1, hfs⟩ := list_choice (P := fun i (fs : List Int) => ∃ y row k, xs[i]? = some y ∧ (rowsW n ds)[i]? = some row ∧ H2 y.1 = some (.tup (iT fs)) ∧ Frm row fs k y.2.2) xs.length fun i hi => by
    have ex := List.getElem?_eq_getElem hi
    have er := List.getElem?_eq_getElem (l := rowsW n ds) (i := i) (by omega)
    rcases hfr i _ _ ex er with ⟨_, c⟩ | ⟨fs, k, hf, Fr⟩
    · exact absurd c (ng _ (List.mem_of_getElem? ex))
    · exact ⟨fs, _, _, k, ex, er, hf, Fr⟩
  have h23 := s3 _ _ h2
  refine ⟨⟨_, SqL.of h23⟩, ?_⟩
  refine comp_rel (Rl := fun _ u (y : Addr × Int × Int) => u = V.ref y.1) (f := tri) (fun _ _ _ _ h _ => h) h23 (hxs.same s3) (by omega) (fun i t y H' R hi ht s' hR => ?_) (fun al4 vs4 H4 n4 s4 h4 l4 fm4 => ?_)
  · unfold tri at ht
    (iterate 5 ((try (walk_at "WP")); (try (simp only [ht, Option.some.injEq, HO.tup.injEq, HO.lst.injEq, HO.dK.injEq, exists_eq_left', exists_eq_left])))); (try (walk_at "WP"))
    exact hR _ _ (Same.refl _) rfl
  have ht4 : HTs iT H4 vs4 fss := ⟨by omega, fun i fs hi => by
    obtain ⟨y, row, k, e1, e2, e3, _⟩ := hfs i fs hi
    have ev := List.getElem?_eq_getElem (l := vs4) (i := i) (by have := (List.getElem?_eq_some_iff.mp e1).1; omega)
    exact ⟨y.1, by rw [ev, fm4 i _ _ ev e1], s4 _ _ (s3 _ _ e3)⟩⟩
  try walk_at "WP"
  refine ⟨al4, vs4, fss, rfl, h4, ht4, by omega, fun sa nsa => ?_⟩
  have s5 := same_new nsa (SetNE sa (fss.foldl stepT []).length)
  have fl2 := foldT_len fss []
  have fli := foldT_iff fss [] List.nodup_nil
  rw [List.length_nil, Nat.zero_add] at fl2 fli
  rw [List.nil_append] at fli
  refine ⟨sa, _, rfl, upd_same, by omega, ?_⟩
  have s15 := (s13.trans s4).trans s5
  have hfl5 := s5 _ _ (s4 _ _ h23)
  generalize upd H4 sa (SetNE sa (fss.foldl stepT []).length) = H5 at s15 hfl5 ⊢
  (iterate 5 ((try (walk_at "WP")); (try (simp only [hfl5, Option.some.injEq, HO.tup.injEq, HO.lst.injEq, HO.dK.injEq, exists_eq_left', exists_eq_left])))); (try (walk_at "WP"))
  have dist : fss.Nodup ↔ ∀ (i j : Nat) (ri rj fs : List Int) (k k' : Nat) (g g' : Int), i < j → (rowsW n ds)[i]? = some ri → (rowsW n ds)[j]? = some rj → Frm ri fs k g → Frm rj fs k' g' → False := by
    constructor
    · intro nd i j ri rj fs k k' g g' hij hi hj F1 F2
      have il := (List.getElem?_eq_some_iff.mp hi).1
      have jl := (List.getElem?_eq_some_iff.mp hj).1
      have ei := List.getElem?_eq_getElem (l := fss) (i := i) (by omega)
      have ej := List.getElem?_eq_getElem (l := fss) (i := j) (by omega)
      obtain ⟨_, row, k1, _, e2, _, G1⟩ := hfs i _ ei
      obtain ⟨_, row', k2, _, e2', _, G2⟩ := hfs j _ ej
      rw [hi] at e2
      rw [hj] at e2'
      cases e2
      cases e2'
      have a1 := (frm_uniq F1 G1).1
      have a2 := (frm_uniq F2 G2).1
      have := List.pairwise_iff_getElem.mp nd i j (by omega) (by omega) hij
      exact this (a1.symm.trans a2)
    · intro D
      refine List.pairwise_iff_getElem.mpr fun i j hi hj hij e => ?_
      obtain ⟨_, row, k1, _, e2, _, G1⟩ := hfs i _ (List.getElem?_eq_getElem hi)
      obtain ⟨_, row', k2, _, e2', _, G2⟩ := hfs j _ (List.getElem?_eq_getElem hj)
      rw [e] at G1
      exact D i j _ _ _ _ _ _ _ hij e2 e2' G1 G2
  refine ite2 (fun c => ?_) (fun c => ?_)
  · refine q _ _ s15 ⟨fun y => (by cases y), fun Bq => ?_⟩
    have := fli.mpr (dist.mpr Bq.2.1)
    omega
  have nd := fli.mp (by omega)
  refine ⟨x, dl, gl, n, us, ds, os, gs, rfl, W.same s15, F.ok, fun r bs H6 nr s6 h6 US => ?_⟩
  have s16 := s15.trans s6
  have hx6 := s16 _ _ h1
  (iterate 5 ((try (walk_at "WP")); (try (simp only [hx6, Option.some.injEq, HO.tup.injEq, HO.lst.injEq, HO.dK.injEq, exists_eq_left', exists_eq_left])))); (try (walk_at "WP"))
  refine ⟨_, SqL.of h6, fun sl nsl => ?_⟩
  rw [cut_drop (by rw [List.length_map, US.len]; omega), ← List.map_drop]
  refine ⟨sl, bs.drop n, rfl, upd_same, ?_⟩
  refine q _ _ (s16.trans (same_new nsl _)) ⟨fun a => ⟨fun row hrow => ?_, dist.mp nd, fun i hi1 hi2 => ?_⟩, fun Bq => ?_⟩
  · obtain ⟨i, hi⟩ := List.getElem?_of_mem hrow
    have il := (List.getElem?_eq_some_iff.mp hi).1
    have ef := List.getElem?_eq_getElem (l := fss) (i := i) (by omega)
    obtain ⟨_, row', k1, _, e2, _, G1⟩ := hfs i _ ef
    rw [hi] at e2
    cases e2
    exact G1.nz.2
  · have eb := List.getElem?_eq_getElem (l := bs) (i := i) (by rw [US.len]; exact hi2)
    have m : bs[i]'(by rw [US.len]; exact hi2) ∈ bs.drop n := List.mem_of_getElem? (i := i - n) (by rw [List.getElem?_drop, show n + (i - n) = i by omega, eb])
    have := List.all_eq_true.mp a _ m
    exact (US.iff i hi2).mp (by rw [eb]; exact congrArg some this)
  · refine List.all_eq_true.mpr fun b hb => ?_
    obtain ⟨j, hj⟩ := List.getElem?_of_mem hb
    rw [List.getElem?_drop] at hj
    have jl := (List.getElem?_eq_some_iff.mp hj).1
    rw [US.len] at jl
    have := (US.iff (n + j) jl).mpr (Bq.2.2 (n + j) (by omega) jl)
    rw [hj] at this
    exact Option.some.inj this
end

section
variable {P : Program} {w : World} {K : PySem.W.Frag} {mg : Str → Option Value} {base : Heap}
theorem ok_lpen (T : Txt K mg) : Cal P w K mg base 1 "_law_pen" ["_law_script"] (spLPen K) := by
  have B := T.bl
  refine mkCal T.t_l_pen sc_l_pen (fun vs H Q E h => ?_) (fun f cdv A outer s H vs Q E hr h => ?_)
  · obtain ⟨a, rfl, _⟩ := h
    rfl
  obtain ⟨a, rfl, q⟩ := h
  refine ⟨_, ((@pss_one _ _ _ (@ps_ret _ _ _ _ (@pe_lst _ _ _ _ (@pa_cons _ _ _ _ _ (pv 0) (@pa_cons _ _ _ _ _ pe_int (@pa_cons _ _ _ _ _ pe_int pa_nil (by rfl)) (by rfl)) (by rfl)))))), ?_⟩
  rw [show start ["_law_script"] [.ref a] = [some (.ref a)] from rfl]
  try walk_at "WP"
  intro p hp
  exact q p _ hp (same_new hp _) (lpen_of (by decide) (by decide) (by decide))
theorem ok_ltake (T : Txt K mg) : Cal P w K mg base 1 "_law_take" ["_law_pen_here", "_law_many"] (spLTake K) := by
  have B := T.bl
  refine mkCal T.t_l_take sc_l_take (fun vs H Q E h => ?_) (fun f cdv A outer s H vs Q E hr h => ?_)
  · obtain ⟨p, a, ns, m, c, rfl, _⟩ := h
    rfl
  obtain ⟨p, a, ns, m, c_, rfl, hP, hS, h63, hc, h1, h2, q⟩ := h
  refine ⟨_, ((@pss_cons _ _ _ _ _ (@ps_asg _ _ _ _ _ _ (pv 0) (@pg_lst _ _ _ _ _ 3 rfl (@pgs_cons _ _ _ _ _ (@pg_name _ _ (2) _ sc_l_take.nd rfl (by first | exact Or.inl rfl | exact Or.inr rfl) (by first | exact .inl rfl | exact .inr rfl | assumption)) (@pgs_cons _ _ _ _ _ (@pg_name _ _ (3) _ sc_l_take.nd rfl (by first | exact Or.inl rfl | exact Or.inr rfl) (by first | exact .inl rfl | exact .inr rfl | assumption)) (@pgs_cons _ _ _ _ _ (@pg_name _ _ (4) _ sc_l_take.nd rfl (by first | exact Or.inl rfl | exact Or.inr rfl) (by first | exact .inl rfl | exact .inr rfl | assumption)) pgs_nil (by rfl)) (by rfl)) (by rfl)) (by rfl) (by rfl)) (by rfl) (by rfl) (by rfl)) (@pss_cons _ _ _ _ _ (@ps_if _ _ _ _ _ _ _ _ (@pt_cmpR _ _ _ _ _ _ _ _ op_gt (pv 4) pe_int (@nomark _ _ (by decide) (by decide))) (@pss_cons _ _ _ _ _ (@ps_asg _ _ _ _ _ _ (@pe_op _ _ _ _ _ _ _ _ op_fdivB (pv 4) (pv 1)) (@pg_sub _ _ _ _ _ _ _ (pv 0) pe_int set_list (by intro _ ; rfl)) (by rfl) (by rfl) (by rfl)) (@pss_one _ _ _ (@ps_ret _ _ _ _ (@pe_op _ _ _ _ _ _ _ _ op_mod (pv 4) (pv 1))))) pss_nil) (@pss_cons _ _ _ _ _ (@ps_asg _ _ _ _ _ _ (@pe_op _ _ _ _ _ _ _ _ op_add (pv 3) pe_int) (@pg_sub _ _ _ _ _ _ _ (pv 0) pe_int set_list (by intro _ ; rfl)) (by rfl) (by rfl) (by rfl)) (@pss_cons _ _ _ _ _ (@ps_set _ _ (5) _ _ _ _ sc_l_take.nd rfl (by first | exact Or.inl rfl | exact Or.inr rfl) (@pe_op _ _ _ _ _ _ _ _ op_add (@pe_op _ _ _ _ _ _ _ _ op_mulB pe_int (pv 3)) pe_int) (by rfl) (by first | exact .inl rfl | exact .inr rfl | assumption)) (@pss_mid _ _ _ _ _ (@ps_if _ _ _ _ _ _ _ _ (@pt_cmpR _ _ _ _ _ _ _ _ op_gt (@pe_callB _ _ _ _ _ _ _ _ _ call_lenS rfl B.len bo_len (@pa_cons _ _ _ _ _ (pv 2) pa_nil (by rfl)) (by decide) (by decide) (by rfl) (by rfl)) pe_int (@nomark _ _ (by decide) (by decide))) (@pss_one _ _ _ (@ps_set _ _ (5) _ _ _ _ sc_l_take.nd rfl (by first | exact Or.inl rfl | exact Or.inr rfl) (@pe_ix _ _ _ _ _ _ _ ix_list (pv 2) (@pe_op _ _ _ _ _ _ _ _ op_mod (pv 3) (@pe_callB _ _ _ _ _ _ _ _ _ call_lenS rfl B.len bo_len (@pa_cons _ _ _ _ _ (pv 2) pa_nil (by rfl)) (by decide) (by decide) (by rfl) (by rfl))) (fun _ _ => rfl)) (by rfl) (by first | exact .inl rfl | exact .inr rfl | assumption))) pss_nil) (@pss_cons _ _ _ _ _ (@ps_if _ _ _ _ _ _ _ _ (@PW.pt _ _ _ (@pw_and _ _ _ _ _ _ _ (@pt_cmpR _ _ _ _ _ _ _ _ op_lt (pv 3) (@pe_callB _ _ _ _ _ _ _ _ _ call_lenS rfl B.len bo_len (@pa_cons _ _ _ _ _ (pv 2) pa_nil (by rfl)) (by decide) (by decide) (by rfl) (by rfl)) (@nomark _ _ (by decide) (by decide))) (@pw_and1 _ _ _ _ (@pt_cmpR _ _ _ _ _ _ _ _ op_ge (@pe_callB _ _ _ _ _ _ _ _ _ call_abs rfl B.abs bo_abs (@pa_cons _ _ _ _ _ (pv 5) pa_nil (by rfl)) (by decide) (by decide) (by rfl) (by rfl)) (@pe_op _ _ _ _ _ _ _ _ op_powB pe_int pe_int) (@nomark _ _ (by decide) (by decide)))))) (@pss_cons _ _ _ _ _ (@ps_asg _ _ _ _ _ _ (@pe_op _ _ _ _ _ _ _ _ op_fdivB (@pe_callB _ _ _ _ _ _ _ _ _ call_abs rfl B.abs bo_abs (@pa_cons _ _ _ _ _ (pv 5) pa_nil (by rfl)) (by decide) (by decide) (by rfl) (by rfl)) (pv 1)) (@pg_sub _ _ _ _ _ _ _ (pv 0) pe_int set_list (by intro _ ; rfl)) (by rfl) (by rfl) (by rfl)) (@pss_one _ _ _ (@ps_ret _ _ _ _ (@pe_op _ _ _ _ _ _ _ _ op_mod (@pe_callB _ _ _ _ _ _ _ _ _ call_abs rfl B.abs bo_abs (@pa_cons _ _ _ _ _ (pv 5) pa_nil (by rfl)) (by decide) (by decide) (by rfl) (by rfl)) (pv 1))))) pss_nil) (@pss_cons _ _ _ _ _ (@ps_set _ _ (6) _ _ _ _ sc_l_take.nd rfl (by first | exact Or.inl rfl | exact Or.inr rfl) (@pe_op _ _ _ _ _ _ _ _ op_mod (@pe_op _ _ _ _ _ _ _ _ op_mulB (@pe_op _ _ _ _ _ _ _ _ op_add (@pe_op _ _ _ _ _ _ _ _ op_add (@pe_op _ _ _ _ _ _ _ _ op_mod (pv 5) pe_int) (@pe_op _ _ _ _ _ _ _ _ op_mulB pe_int (pv 3))) pe_int) pe_int) pe_int) (by rfl) (by first | exact .inl rfl | exact .inr rfl | assumption)) (@pss_cons _ _ _ _ _ (@ps_set _ _ (6) _ _ _ _ sc_l_take.nd rfl (by first | exact Or.inl rfl | exact Or.inr rfl) (@pe_op _ _ _ _ _ _ _ _ op_mod (@pe_op _ _ _ _ _ _ _ _ op_add (@pe_op _ _ _ _ _ _ _ _ op_add (@pe_op _ _ _ _ _ _ _ _ op_mulB (pv 6) (pv 6)) (@pe_op _ _ _ _ _ _ _ _ op_mulB pe_int (pv 3))) pe_int) pe_int) (by rfl) (by first | exact .inl rfl | exact .inr rfl | assumption)) (@pss_one _ _ _ (@ps_ret _ _ _ _ (@pe_op _ _ _ _ _ _ _ _ op_mod (@pe_op _ _ _ _ _ _ _ _ op_fdivB (@pe_op _ _ _ _ _ _ _ _ op_mod (@pe_op _ _ _ _ _ _ _ _ op_mulB (pv 6) (pv 6)) pe_int) pe_int) (pv 1))))))))))))), ?_⟩
  rw [show start ["_law_pen_here", "_law_many", "_law_script", "_law_at", "_law_left", "_law_cell", "_law_number"] [.ref p, .int m] = [some (.ref p), some (.int m), none, none, none, none, none] from rfl]
  obtain ⟨t, l, hH, ht0, htc, hl⟩ := id hP
  (iterate 5 ((try (walk_at "WP")); (try (simp only [hH, Option.some.injEq, HO.tup.injEq, HO.lst.injEq, HO.dK.injEq, exists_eq_left', exists_eq_left])))); (try (walk_at "WP"))
  refine ite2 (fun c => ?_) (fun c => ?_)
  · exact ⟨divB (by omega) h2, by omega, q _ _ (modq (by omega)).1 (modq (by omega)).2 (lpen_of ht0 (by omega) (divq hl (by omega))) (hS.lpen hP (Chg.upd _)) (Chg.upd _)⟩
  refine ⟨mul_l (by decide) (by decide), ?_⟩
  have hS1 := hS.lpen hP (Chg.upd (.lst [V.ref a, V.int (t + 1), V.int l]))
  have hP1 : LPen (upd H p (.lst [V.ref a, V.int (t + 1), V.int l])) p a (c_ + 1) := lpen_of (by omega) (by omega) hl
  have C1 : Chg p H (upd H p (.lst [V.ref a, V.int (t + 1), V.int l])) := Chg.upd _
  have hp1 : (upd H p (.lst [V.ref a, V.int (t + 1), V.int l])) p = some (.lst [V.ref a, V.int (t + 1), V.int l]) := upd_same
  generalize upd H p (.lst [V.ref a, V.int (t + 1), V.int l]) = H1 at *
  refine mid_of (fun σ H2 => ∃ (cell : Int), σ = [some (.ref p), some (.int m), some (.ref a), some (.int t), some (.int l), some (.int cell), none] ∧ H2 = H1) (fun N hN => ?_) ?_
  · try walk_at "WP"
    refine ⟨_, hS1.sq, ?_⟩
    rw [List.length_map]
    refine ite2 (fun z => ?_) (fun z => hN _ _ ⟨_, rfl, rfl⟩)
    refine ⟨_, hS1.sq, by rw [List.length_map]; omega, _, hS1.sq, ?_⟩
    rw [List.length_map]
    have b := modq (g := t) (m := (ns.length : Int)) (by omega)
    obtain ⟨v, hv, _⟩ := atI_int (ns := ns) b.1 b.2
    exact ⟨_, hv, hN _ _ ⟨v, rfl, rfl⟩⟩
  · rintro σ H2 ⟨cell, rfl, rfl⟩
    (iterate 5 ((try (walk_at "WP")); (try (simp only [hp1, Option.some.injEq, HO.tup.injEq, HO.lst.injEq, HO.dK.injEq, exists_eq_left', exists_eq_left])))); (try (walk_at "WP"))
    refine ⟨_, hS1.sq, ?_⟩
    rw [List.length_map]
    have h0 : 0 ≤ (if cell < 0 then -cell else cell) := by split <;> omega
    generalize hn1 : (cell % 2147483587 + 40692 * t + 23) * 48271 % 2147483647 = n1
    have n1b : 0 ≤ n1 ∧ n1 < 2147483647 := by omega
    generalize hn2 : (n1 * n1 + 69621 * t + 9) % 2147483629 = n2
    have n2b : 0 ≤ n2 ∧ n2 < 2147483629 := by omega
    have last : IntMulOk 40692 t ∧ IntMulOk (cell % 2147483587 + 40692 * t + 23) 48271 ∧ IntMulOk n1 n1 ∧ IntMulOk 69621 t ∧ IntMulOk n2 n2 ∧ CDivB (n2 * n2 % 2147483563) 64 ∧ 0 < m ∧ Q (V.int (n2 * n2 % 2147483563 / 64 % m)) H2 :=
      ⟨mul_l (by decide) (by decide), mul_r (by decide) (by decide), mul_l (by omega) (by omega), mul_l (by decide) (by decide), mul_l (by omega) (by omega), divB (by decide) (by decide), by omega, q _ _ (modq (by omega)).1 (modq (by omega)).2 hP1 hS1 C1⟩
    refine ite2 (fun _ => ?_) (fun _ => last)
    refine ite2 (fun _ => ?_) (fun _ => last)
    exact ⟨divB (by omega) h2, by omega, q _ _ (modq (by omega)).1 (modq (by omega)).2 (lpen_of (by omega) (by omega) (divq h0 (by omega))) (hS1.lpen hP1 (Chg.upd _)) (C1.trans (Chg.upd _))⟩
end

section
variable {P : Program} {w : World} {K : PySem.W.Frag} {mg : Str → Option Value} {base : Heap}
theorem ok_shiftX (T : Txt K mg) : Cal P w K mg base 2 "_law_shift" ["_law_pen_here", "_law_line"] (spShY K) := by
  have B := T.bl
  have C_l_take := ok_ltake (P := P) (w := w) (base := base) T
  refine mkCal T.t_l_shift sc_l_shift (fun vs H Q E h => ?_) (fun f cdv A outer s H vs Q E hr h => ?_)
  · obtain ⟨_, _, _, _, _, _, rfl, _⟩ := h
    rfl
  obtain ⟨p, a, l, ns, c_, xs, rfl, hP, hS, h63, hc, hl, hlen, hlp, q⟩ := h
  refine ⟨_, ((@pss_mid _ _ _ _ _ (@ps_set _ _ (2) _ _ _ _ sc_l_shift.nd rfl (by first | exact Or.inl rfl | exact Or.inr rfl) (@pe_ix _ _ _ _ _ _ _ ix_M (@pe_lst _ _ _ _ (@pa_cons _ _ _ _ _ pe_int (@pa_cons _ _ _ _ _ pe_int (@pa_cons _ _ _ _ _ pe_int (@pa_cons _ _ _ _ _ pe_int (@pa_cons _ _ _ _ _ (@pe_cal _ _ _ _ _ _ _ _ _ _ C_l_take hr rfl (@pa_cons _ _ _ _ _ (pv 0) (@pa_cons _ _ _ _ _ pe_int pa_nil (by rfl)) (by rfl)) (by decide) (by rfl) (by rfl)) (@pa_cons _ _ _ _ _ (@pe_cal _ _ _ _ _ _ _ _ _ _ C_l_take hr rfl (@pa_cons _ _ _ _ _ (pv 0) (@pa_cons _ _ _ _ _ pe_int pa_nil (by rfl)) (by rfl)) (by decide) (by rfl) (by rfl)) pa_nil (by rfl)) (by rfl)) (by rfl)) (by rfl)) (by rfl)) (by rfl))) (@pe_cal _ _ _ _ _ _ _ _ _ _ C_l_take hr rfl (@pa_cons _ _ _ _ _ (pv 0) (@pa_cons _ _ _ _ _ pe_int pa_nil (by rfl)) (by rfl)) (by decide) (by rfl) (by rfl)) (fun _ _ => rfl)) (by rfl) (by first | exact .inl rfl | exact .inr rfl | assumption)) (@pss_cons _ _ _ _ _ (@ps_set _ _ (3) _ _ _ _ sc_l_shift.nd rfl (by first | exact Or.inl rfl | exact Or.inr rfl) pe_int (by rfl) (by first | exact .inl rfl | exact .inr rfl | assumption)) (@pss_mid _ _ _ _ _ (@ps_whl _ _ _ _ _ _ PassesOwn.never (@PW.pt _ _ _ (@pw_and _ _ _ _ _ _ _ (@pt_cmpR _ _ _ _ _ _ _ _ op_lt (pv 3) pe_int (@nomark _ _ (by decide) (by decide))) (@pw_and1 _ _ _ _ (@pt_cmpR _ _ _ _ _ _ _ _ (@op_eqD _ _ hr) (@pe_comp0 _ _ _ _ _ _ _ _ (["_law_number", "_law_far"]) (1) ([3]) _ _ _ rfl (@pi_list _ _ _ _ (pv 1)) (fun nd C s H fp => ⟨(@pg_name _ _ (0) _ nd rfl (by first | exact Or.inl rfl | exact Or.inr rfl) (by first | exact .inl rfl | exact .inr rfl | assumption)), (@pn_one _ _ _ (@pt_cmpR _ _ _ _ _ _ _ _ op_ne (@pe_op _ _ _ _ _ _ _ _ op_mod (pv 0) (@pe_op _ _ _ _ _ _ _ _ op_shlB pe_int (pv 1))) pe_int (@nomark _ _ (by decide) (by decide)))), (pv 0)⟩) (by decide +kernel) (by first | rfl | decide +kernel) (by first | rfl | decide +kernel) rfl (fun _ => rfl)) (@pe_lst _ _ _ _ pa_nil) (@nomark _ _ (by decide) (by decide)))))) (@pss_one _ _ _ (@ps_set _ _ (3) _ _ _ _ sc_l_shift.nd rfl (by first | exact Or.inl rfl | exact Or.inr rfl) (@pe_op _ _ _ _ _ _ _ _ op_add (pv 3) pe_int) (by rfl) (by first | exact .inl rfl | exact .inr rfl | assumption)))) (@pss_cons _ _ _ _ _ (@ps_if _ _ _ _ _ _ _ _ (@PW.pt _ _ _ (@pw_and _ _ _ _ _ _ _ (@pt_cmpR _ _ _ _ _ _ _ _ op_gt (pv 3) pe_int (@nomark _ _ (by decide) (by decide))) (@pw_and1 _ _ _ _ (@pt_cmpR _ _ _ _ _ _ _ _ op_eq (@pe_cal _ _ _ _ _ _ _ _ _ _ C_l_take hr rfl (@pa_cons _ _ _ _ _ (pv 0) (@pa_cons _ _ _ _ _ pe_int pa_nil (by rfl)) (by rfl)) (by decide) (by rfl) (by rfl)) pe_int (@nomark _ _ (by decide) (by decide)))))) (@pss_one _ _ _ (@ps_ret _ _ _ _ (@pe_op _ _ _ _ _ _ _ _ op_sub (@pe_op _ _ _ _ _ _ _ _ op_sub pe_int pe_int) (@pe_cal _ _ _ _ _ _ _ _ _ _ C_l_take hr rfl (@pa_cons _ _ _ _ _ (pv 0) (@pa_cons _ _ _ _ _ (pv 3) pa_nil (by rfl)) (by rfl)) (by decide) (by rfl) (by rfl))))) pss_nil) (@pss_one _ _ _ (@ps_ret _ _ _ _ (pv 2)))))))), ?_⟩
  rw [show start ["_law_pen_here", "_law_line", "_law_up", "_law_far"] [.ref p, .ref l] = [some (.ref p), some (.ref l), none, none] from rfl]
  try walk_at "WP"
  refine mid_of (fun σ H1 => ∃ (u : Int), σ = [some (.ref p), some (.ref l), some (.int u), none] ∧ 0 ≤ u ∧ u ≤ 40 ∧ LPen H1 p a (c_ + 3) ∧ Scr K H1 a ns ∧ Chg p H H1) (fun N hN => ?_) ?_
  · try walk_at "WP"
    refine ltake_ hP hS h63 (by omega) (by decide) (by decide) fun r0 H0 r00 r01 P0 S0 C0 => ?_
    try walk_at "WP"
    refine ltake_ P0 S0 h63 (by omega) (by decide) (by decide) fun r1 H1 r10 r11 P1 S1 C1' => ?_
    have C1 := C0.trans C1'
    try walk_at "WP"
    intro e he
    have se := same_new he (.lst [V.int 0, V.int 0, V.int 1, V.int 2, V.int r0, V.int r1])
    refine ltake_ (P1.same se) (S1.same se) h63 (by omega) (by decide) (by decide) fun r2 H2 r20 r21 P2 S2 C2 => ?_
    have hH2 := C2 e _ (P1.ne he) upd_same
    (iterate 5 ((try (walk_at "WP")); (try (simp only [hH2, Option.some.injEq, HO.tup.injEq, HO.lst.injEq, HO.dK.injEq, exists_eq_left', exists_eq_left])))); (try (walk_at "WP"))
    have hat : ∃ u : Int, atI [V.int 0, V.int 0, V.int 1, V.int 2, V.int r0, V.int r1] r2 = some (.int u) ∧ 0 ≤ u ∧ u ≤ 40 := by
      have six : r2 = 0 ∨ r2 = 1 ∨ r2 = 2 ∨ r2 = 3 ∨ r2 = 4 ∨ r2 = 5 := by omega
      rcases six with z | z | z | z | z | z <;> subst z
      · exact ⟨0, rfl, by omega, by omega⟩
      · exact ⟨0, rfl, by omega, by omega⟩
      · exact ⟨1, rfl, by omega, by omega⟩
      · exact ⟨2, rfl, by omega, by omega⟩
      · exact ⟨r0, rfl, by omega, by omega⟩
      · exact ⟨r1, rfl, by omega, by omega⟩
    obtain ⟨u, hu, u0, u1⟩ := hat
    exact ⟨_, hu, hN _ _ ⟨u, rfl, u0, u1, P2.mono (by omega), S2, (C1.trans se.chg).trans C2⟩⟩
  rintro σ H1 ⟨u, rfl, u0, u1, P1, S1, C1⟩
  try walk_at "WP"
  refine mid_of (fun σ H2 => ∃ (d : Nat), σ = [some (.ref p), some (.ref l), some (.int u), some (.int d)] ∧ d ≤ 40 ∧ (∀ x ∈ xs, (2 : Int) ^ d ∣ x) ∧ Same H1 H2) (fun N hN => ?_) ?_
  · have hl1 := C1 l _ hlp hl
    refine whl (fun m σ H2 => ∃ d : Nat, σ = [some (.ref p), some (.ref l), some (.int u), some (.int d)] ∧ m = 40 - d ∧ d ≤ 40 ∧ (∀ x ∈ xs, (2 : Int) ^ d ∣ x) ∧ Same H1 H2) 40 ⟨0, rfl, rfl, by omega, fun x _ => by rw [Int.pow_zero]; exact Int.one_dvd x, fun _ _ z => z⟩ ?_
    rintro m σ H2 N2 ⟨d, rfl, rfl, hd, hdv, SH⟩ hN2
    try walk_at "WP"
    refine ite2 (fun c => ?_) (fun c => ?_)
    · have hl2 := SH _ _ hl1
      refine ⟨⟨_, SqL.of hl2⟩, ?_⟩
      refine comp_L (f := dvV d) (SqL.of hl2) (by rw [List.length_map]; exact le_big (by omega)) (fun y H' R hy hS' hR => ?_) (fun acc hacc => ?_)
      · obtain ⟨n, hn, rfl⟩ := List.mem_map.mp hy
        rw [show capV [3] [some (.ref p), some (.ref l), some (.int u), some (V.int (d : Int))] = [some (V.int (d : Int))] from rfl]
        try walk_at "WP"
        rw [dvV_int] at hR
        rw [Int.toNat_natCast]
        have pp := pow_pos2 d
        refine ⟨⟨by omega, by omega, Nat.le_trans (bits_le (n := 2) (by decide)) (by decide)⟩, by omega, ?_⟩
        refine ite2 (fun z => ?_) (fun z => ?_)
        · rw [if_pos z] at hR
          exact hR
        · rw [if_neg z] at hR
          exact hR
      rw [dvV_map]
      have sa := same_new hacc (.lst ((xs.filter fun n => decide (n % (2 * 2 ^ d) ≠ 0)).map V.int))
      have hac : upd H2 acc (.lst ((xs.filter fun n => decide (n % (2 * 2 ^ d) ≠ 0)).map V.int)) acc = some (.lst ((xs.filter fun n => decide (n % (2 * 2 ^ d) ≠ 0)).map V.int)) := upd_same
      generalize upd H2 acc (.lst ((xs.filter fun n => decide (n % (2 * 2 ^ d) ≠ 0)).map V.int)) = H3 at sa hac ⊢
      try walk_at "WP"
      intro e he
      have se := same_new he (.lst [])
      refine eqLI (ns := xs.filter fun n => decide (n % (2 * 2 ^ d) ≠ 0)) (ms := []) (SqL.of (se _ _ hac)) (SqL.of upd_same) ?_
      try walk_at "WP"
      have S3 := (SH.trans sa).trans se
      refine ite2 (fun z => ?_) (fun z => ?_)
      · refine hN2 (40 - (d + 1)) _ _ (by omega) ⟨d + 1, by simp, rfl, by omega, fun x hx => ?_, S3⟩
        have hz : ¬ (x % (2 * 2 ^ d) ≠ 0) := fun h => by
          have : x ∈ xs.filter fun n => decide (n % (2 * 2 ^ d) ≠ 0) := List.mem_filter.mpr ⟨hx, decide_eq_true h⟩
          rw [z] at this
          cases this
        have hz2 := Decidable.not_not.mp hz
        rw [Int.pow_succ, Int.mul_comm]
        exact Int.dvd_of_emod_eq_zero hz2
      · exact hN _ _ ⟨d, rfl, hd, hdv, S3⟩
    · exact hN _ _ ⟨d, rfl, hd, hdv, SH⟩
  rintro σ H2 ⟨d, rfl, hd, hdv, s2⟩
  try walk_at "WP"
  have C2 : Chg p H H2 := C1.trans s2.chg
  have els : ∀ (H4 : Hp) (k : Int), LPen H4 p a k → k ≤ c_ + 10 → Scr K H4 a ns → Chg p H H4 → Q (.int u) H4 := fun H4 k P4 hk S4 C4 => q u H4 ⟨by omega, u1, fun z => by omega⟩ (P4.mono hk) S4 C4
  refine ite2 (fun z => ?_) (fun z => els H2 _ (P1.same s2) (by omega) (S1.same s2) C2)
  refine ltake_ (P1.same s2) (S1.same s2) h63 (by omega) (by decide) (by decide) fun r3 H4 r30 r31 P4 S4 C4 => ?_
  try walk_at "WP"
  refine ite2 (fun z2 => ?_) (fun z2 => els H4 _ P4 (by omega) S4 (C2.trans C4))
  refine ltake_ P4 S4 h63 (by omega) (by omega) (by omega) fun r4 H5 r40 r41 P5 S5 C5 => ?_
  try walk_at "WP"
  refine q _ H5 ⟨by omega, by omega, fun _ x hx => ?_⟩ (P5.mono (by omega)) S5 ((C2.trans C4).trans C5)
  refine Int.dvd_trans ?_ (hdv x hx)
  rw [show d = (-(-1 - r4)).toNat + (d - (-(-1 - r4)).toNat) by omega, Int.pow_add]
  exact Int.dvd_mul_right _ _
end

section
variable {P : Program} {w : World} {K : PySem.W.Frag} {mg : Str → Option Value} {base : Heap}
theorem ok_mv28 (T : Txt K mg) : Cal P w K mg base 1 "_law_moved" ["_law_line", "_law_shift_here"] spMv28 := by
  have B := T.bl
  refine mkCal T.t_l_moved sc_l_moved (fun vs H Q E h => ?_) (fun f cdv A outer s H vs Q E hr h => ?_)
  · obtain ⟨_, _, _, rfl, _⟩ := h
    rfl
  obtain ⟨l, row, sh, rfl, hl, l100, s0, s1, rb, q⟩ := h
  refine ⟨_, ((@pss_one _ _ _ (@ps_ret _ _ _ _ (@pe_comp0 _ _ _ _ _ _ _ _ (["_law_number", "_law_shift_here"]) (1) ([1]) _ _ _ rfl (@pi_list _ _ _ _ (pv 0)) (fun nd C s H fp => ⟨(@pg_name _ _ (0) _ nd rfl (by first | exact Or.inl rfl | exact Or.inr rfl) (by first | exact .inl rfl | exact .inr rfl | assumption)), pn_nil, (@pe_op _ _ _ _ _ _ _ _ op_shr (@pe_op _ _ _ _ _ _ _ _ op_shlB (pv 0) (@pe_callB _ _ _ _ _ _ _ _ _ (@call_max2 _ rfl) rfl B.max bo_max (@pa_cons _ _ _ _ _ (pv 1) (@pa_cons _ _ _ _ _ pe_int pa_nil (by rfl)) (by rfl)) (by decide) (by decide) (by rfl) (by rfl))) (@pe_callB _ _ _ _ _ _ _ _ _ (@call_max2 _ rfl) rfl B.max bo_max (@pa_cons _ _ _ _ _ (@pe_op _ _ _ _ _ _ _ _ op_sub pe_int (pv 1)) (@pa_cons _ _ _ _ _ pe_int pa_nil (by rfl)) (by rfl)) (by decide) (by decide) (by rfl) (by rfl)))⟩) (by decide +kernel) (by first | rfl | decide +kernel) (by first | rfl | decide +kernel) rfl (fun _ => rfl))))), ?_⟩
  rw [show start ["_law_line", "_law_shift_here"] [.ref l, .int sh] = [some (.ref l), some (.int sh)] from rfl]
  try walk_at "WP"
  refine ⟨⟨_, SqL.of hl⟩, ?_⟩
  refine comp_L (f := liI (mvI sh)) (SqL.of hl) (by rw [List.length_map]; exact le_big (by omega)) (fun y H' R hy hS' hR => ?_) (fun m hm => ?_)
  · obtain ⟨n, hn, rfl⟩ := List.mem_map.mp hy
    rw [show capV [1] [some (V.ref l), some (V.int sh)] = [some (V.int sh)] from rfl]
    try walk_at "WP"
    refine ⟨_, _, ⟨rfl, rfl⟩, ?_⟩
    by_cases c : 0 ≤ sh
    · rw [if_neg (by omega)]
      refine ⟨shl_ok c (by omega) (rb n hn) (by decide), _, _, ⟨rfl, rfl⟩, by split <;> omega, ?_⟩
      rw [show (if (0 : Int) > 0 - sh then (0 : Int) else 0 - sh).toNat = 0 by split <;> omega, Int.pow_zero, Int.ediv_one, ← mvI_up c]
      exact hR
    · rw [if_pos (by omega)]
      refine ⟨shl_ok (Int.le_refl 0) (by decide) (rb n hn) (by decide), _, _, ⟨rfl, rfl⟩, by split <;> omega, ?_⟩
      rw [if_neg (by omega), show (0 : Int).toNat = 0 from rfl, Int.pow_zero, Int.mul_one, show (0 - sh) = -sh by omega, ← mvI_down (by omega)]
      exact hR
  rw [liI_map]
  exact q m _ hm (same_new hm _) upd_same
theorem ok_come28 (T : Txt K mg) : Cal P w K mg base 2 "_law_come" ["_law_things_by", "_law_deed_here"] spCome28 := by
  have B := T.bl
  have C_l_moved := ok_mv28 (P := P) (w := w) (base := base) T
  refine mkCal T.t_l_come sc_l_come (fun vs H Q E h => ?_) (fun f cdv A outer s H vs Q E hr h => ?_)
  · obtain ⟨_, _, _, _, _, _, rfl, _⟩ := h
    rfl
  obtain ⟨tb, x, ts, ex, rs, d, rfl, htb, hrs, hx, hw, ha, hb, sa, sb, hl, hb9, q⟩ := h
  refine ⟨_, ((@pss_cons _ _ _ _ _ (@ps_set _ _ (2) _ _ _ _ sc_l_come.nd rfl (by first | exact Or.inl rfl | exact Or.inr rfl) (@pe_ix _ _ _ _ _ _ _ ix_M (@pe_lst _ _ _ _ (@pa_cons _ _ _ _ _ pe_int (@pa_cons _ _ _ _ _ (@pe_un _ _ _ _ _ _ un_neg pe_int) pa_nil (by rfl)) (by rfl))) (@pe_callTy _ _ _ _ _ _ _ _ _ call_int1 rfl B.int bo_int (@pa_cons _ _ _ _ _ (@pe_cmpR _ _ _ _ _ _ _ _ op_eq (@pe_ix _ _ _ _ _ _ _ ix_U (pv 1) pe_int (fun _ _ => rfl)) pe_str (@nomark _ _ (by decide) (by decide))) pa_nil (by rfl)) (by decide) (by decide) (by rfl) (by rfl)) (fun _ _ => rfl)) (by rfl) (by first | exact .inl rfl | exact .inr rfl | assumption)) (@pss_cons _ _ _ _ _ (@ps_set _ _ (3) _ _ _ _ sc_l_come.nd rfl (by first | exact Or.inl rfl | exact Or.inr rfl) (@pe_cal _ _ _ _ _ _ _ _ _ _ C_l_moved hr rfl (@pa_cons _ _ _ _ _ (@pe_ix _ _ _ _ _ _ _ ix_M (pv 0) (@pe_ix _ _ _ _ _ _ _ ix_U (pv 1) pe_int (fun _ _ => rfl)) (fun _ _ => rfl)) (@pa_cons _ _ _ _ _ (@pe_ix _ _ _ _ _ _ _ ix_U (pv 1) pe_int (fun _ _ => rfl)) pa_nil (by rfl)) (by rfl)) (by decide) (by rfl) (by rfl)) (by rfl) (by first | exact .inl rfl | exact .inr rfl | assumption)) (@pss_cons _ _ _ _ _ (@ps_set _ _ (4) _ _ _ _ sc_l_come.nd rfl (by first | exact Or.inl rfl | exact Or.inr rfl) (@pe_cal _ _ _ _ _ _ _ _ _ _ C_l_moved hr rfl (@pa_cons _ _ _ _ _ (@pe_ix _ _ _ _ _ _ _ ix_M (pv 0) (@pe_ix _ _ _ _ _ _ _ ix_U (pv 1) pe_int (fun _ _ => rfl)) (fun _ _ => rfl)) (@pa_cons _ _ _ _ _ (@pe_ix _ _ _ _ _ _ _ ix_U (pv 1) pe_int (fun _ _ => rfl)) pa_nil (by rfl)) (by rfl)) (by decide) (by rfl) (by rfl)) (by rfl) (by first | exact .inl rfl | exact .inr rfl | assumption)) (@pss_one _ _ _ (@ps_ret _ _ _ _ (@pe_comp0 _ _ _ _ _ _ _ _ (["_law_one", "_law_two", "_law_by"]) (2) ([2]) _ _ _ rfl (@pi_zip _ _ _ _ _ _ _ _ _ rfl B.zip (@pa_cons _ _ _ _ _ (pv 3) (@pa_cons _ _ _ _ _ (pv 4) pa_nil (by rfl)) (by rfl)) (by rfl) (by rfl)) (fun nd C s H fp => ⟨(@pg_tupM _ _ _ _ _ 2 rfl (@pgs_cons _ _ _ _ _ (@pg_name _ _ (0) _ nd rfl (by first | exact Or.inl rfl | exact Or.inr rfl) (by first | exact .inl rfl | exact .inr rfl | assumption)) (@pgs_cons _ _ _ _ _ (@pg_name _ _ (1) _ nd rfl (by first | exact Or.inl rfl | exact Or.inr rfl) (by first | exact .inl rfl | exact .inr rfl | assumption)) pgs_nil (by rfl)) (by rfl)) (by rfl) (by rfl)), pn_nil, (@pe_op _ _ _ _ _ _ _ _ op_add (pv 0) (@pe_op _ _ _ _ _ _ _ _ op_mulB (pv 2) (pv 1)))⟩) (by decide +kernel) (by first | rfl | decide +kernel) (by first | rfl | decide +kernel) rfl (fun _ => rfl)))))))), ?_⟩
  rw [show start ["_law_things_by", "_law_deed_here", "_law_by", "_law_first", "_law_second"] [.ref tb, .ref x] = [some (.ref tb), some (.ref x), none, none, none] from rfl]
  have hx' := hx
  unfold wTup at hx'
  (iterate 5 ((try (walk_at "WP")); (try (simp only [hx', Option.some.injEq, HO.tup.injEq, HO.lst.injEq, HO.dK.injEq, exists_eq_left', exists_eq_left])))); (try (walk_at "WP"))
  intro lq nlq
  have s1 := same_new nlq (.lst [V.int 1, V.int (-1)])
  have hq1 : upd H lq (.lst [V.int 1, V.int (-1)]) lq = some (.lst [V.int 1, V.int (-1)]) := upd_same
  generalize upd H lq (.lst [V.int 1, V.int (-1)]) = H1 at s1 hq1 ⊢
  have hx1 := s1 _ _ hx'
  have htb1 := s1 _ _ htb
  (iterate 5 ((try (walk_at "WP")); (try (simp only [hx1, hq1, htb1, Option.some.injEq, HO.tup.injEq, HO.lst.injEq, HO.dK.injEq, exists_eq_left', exists_eq_left])))); (try (walk_at "WP"))
  have hat : atI [V.int 1, V.int (-1)] (if d.w = Str.ofString "less" then 1 else 0) = some (.int (sgW d.w)) := by
    rcases hw with z | z <;> rw [z] <;> decide
  have hsg : sgW d.w = 1 ∨ sgW d.w = -1 := by
    rcases hw with z | z <;> rw [z] <;> decide
  obtain ⟨la, rowa, ea, ea1, ea2, ea3, _⟩ := row_of hrs ha
  obtain ⟨lb, rowb, eb, eb1, eb2, eb3, _⟩ := row_of hrs hb
  rw [getD_of ea] at sa hl
  rw [getD_of eb] at sb hl
  obtain ⟨a12, ab⟩ := hb9 _ ea3
  obtain ⟨b12, bb⟩ := hb9 _ eb3
  refine ⟨_, hat, _, ea1, la, rowa, d.s, rfl, s1 _ _ ea2, by omega, sa.1, sa.2.1, ab, fun r1 H2 n1 s2' h1 => ?_⟩
  have s2 := s1.trans s2'
  have hx2 := s2 _ _ hx'
  have htb2 := s2 _ _ htb
  (iterate 5 ((try (walk_at "WP")); (try (simp only [hx2, htb2, Option.some.injEq, HO.tup.injEq, HO.lst.injEq, HO.dK.injEq, exists_eq_left', exists_eq_left])))); (try (walk_at "WP"))
  refine ⟨_, eb1, _, rfl, lb, rowb, d.t, rfl, s2 _ _ eb2, by omega, sb.1, sb.2.1, bb, fun r2 H3 n2 s3' h2 => ?_⟩
  have s3 := s2.trans s3'
  have h13 := s3' _ _ h1
  try walk_at "WP"
  refine ⟨r1, r2, ⟨rfl, rfl⟩, _, SqL.of h13, _, SqL.of h2, ?_⟩
  refine comp_zip (SqL.of h13) (SqL.of h2) (by simp only [List.length_map]; omega) (by simp only [List.length_map]; omega) ((rowD rs d).map V.int) (by unfold rowD; rw [getD_of ea, getD_of eb]; simp only [List.length_map, List.length_zipWith]; omega) (fun i x' y' z' H' R hx hy hz s' hR => ?_) (fun acc H5 n5 s5 h5 => ?_)
  · obtain ⟨u, hu, rfl⟩ := map_at hx
    obtain ⟨v, hv, rfl⟩ := map_at hy
    rw [List.getElem?_map] at hu hv
    obtain ⟨u0, hu0, rfl⟩ := Option.map_eq_some_iff.mp hu
    obtain ⟨v0, hv0, rfl⟩ := Option.map_eq_some_iff.mp hv
    have hz' : z' = V.int (mvI d.s u0 + sgW d.w * mvI d.t v0) := by
      unfold rowD at hz
      rw [getD_of ea, getD_of eb, List.getElem?_map, List.getElem?_zipWith, hu0, hv0] at hz
      exact (Option.some.inj hz).symm
    subst hz'
    rw [show capV [2] [some (V.ref tb), some (V.ref x), some (V.int (sgW d.w)), some (V.ref r1), some (V.ref r2)] = [some (V.int (sgW d.w))] from rfl, List.cons_append, List.cons_append, List.nil_append]
    try walk_at "WP"
    exact ⟨by rcases hsg with z | z <;> rw [z] <;> exact mul_l (by decide) (by decide), hR⟩
  · exact q acc H5 (s3.free n5) (s3.trans s5) h5
end

section
variable {P : Program} {w : World} {K : PySem.W.Frag} {mg : Str → Option Value} {base : Heap}

theorem ok_odd29 (T : Txt K mg) : Cal P w K mg base 1 "_law_odd" ["_law_number"] spOdd29 := by
  have B := T.bl
  refine mkCal T.t_l_odd sc_l_odd (fun vs H Q E h => ?_) (fun f cdv A outer s H vs Q E hr h => ?_)
  · obtain ⟨_, rfl, _⟩ := h
    rfl
  obtain ⟨x, rfl, x0, xb, q⟩ := h
  refine ⟨_, ((@pss_cons _ _ _ _ _ (@ps_set _ _ (1) _ _ _ _ sc_l_odd.nd rfl (by first | exact Or.inl rfl | exact Or.inr rfl) (@pe_callB _ _ _ _ _ _ _ _ _ call_abs rfl B.abs bo_abs (@pa_cons _ _ _ _ _ (pv 0) pa_nil (by rfl)) (by decide) (by decide) (by rfl) (by rfl)) (by rfl) (by first | exact .inl rfl | exact .inr rfl | assumption)) (@pss_one _ _ _ (@ps_ret _ _ _ _ (@pe_op _ _ _ _ _ _ _ _ op_fdivB (pv 1) (@pe_op _ _ _ _ _ _ _ _ op_and (pv 1) (@pe_op _ _ _ _ _ _ _ _ op_sub pe_int (pv 1)))))))), ?_⟩
  rw [show start ["_law_number", "_law_far"] [.int x] = [some (.int x), none] from rfl]
  try walk_at "WP"
  obtain ⟨k, e1, e2, e3⟩ := abs_core x0
  have pk := pow_pos2 k
  rw [e2, e1]
  refine ⟨divBig pk (Nat.lt_of_le_of_lt (by rw [Int.natAbs_pow]; exact e3) xb), ?_⟩
  rw [Int.mul_ediv_cancel _ (by omega)]
  exact q
theorem ok_likeE (T : Txt K mg) : Cal P w K mg base 2 "_law_like" ["_law_one", "_law_other"] spLikeE := by
  have B := T.bl
  have C_l_odd := ok_odd29 (P := P) (w := w) (base := base) T
  refine mkCal T.t_l_like sc_l_like (fun vs H Q E h => ?_) (fun f cdv A outer s H vs Q E hr h => ?_)
  · obtain ⟨_, _, _, _, rfl, _⟩ := h
    rfl
  obtain ⟨l, m, one, other, rfl, hl, hm, hlen, h12, hb1, hb2, hnz, q⟩ := h
  refine ⟨_, ((@pss_cons _ _ _ _ _ (@ps_set _ _ (2) _ _ _ _ sc_l_like.nd rfl (by first | exact Or.inl rfl | exact Or.inr rfl) (@pe_ix _ _ _ _ _ _ _ ix_M (@pe_comp0 _ _ _ _ _ _ _ _ (["_law_k", "_law_one"]) (1) ([0]) _ _ _ rfl (@pi_range1 _ _ _ _ _ _ rfl B.range (@pa_cons _ _ _ _ _ (@pe_callB _ _ _ _ _ _ _ _ _ call_lenM rfl B.len bo_len (@pa_cons _ _ _ _ _ (pv 0) pa_nil (by rfl)) (by decide) (by decide) (by rfl) (by rfl)) pa_nil (by rfl)) (by rfl)) (fun nd C s H fp => ⟨(@pg_name _ _ (0) _ nd rfl (by first | exact Or.inl rfl | exact Or.inr rfl) (by first | exact .inl rfl | exact .inr rfl | assumption)), (@pn_one _ _ _ (@pt_cmpR _ _ _ _ _ _ _ _ op_ne (@pe_ix _ _ _ _ _ _ _ ix_M (pv 1) (pv 0) (fun _ _ => rfl)) pe_int (@nomark _ _ (by decide) (by decide)))), (pv 0)⟩) (by decide +kernel) (by first | rfl | decide +kernel) (by first | rfl | decide +kernel) rfl (fun _ => rfl)) pe_int (fun _ _ => rfl)) (by rfl) (by first | exact .inl rfl | exact .inr rfl | assumption)) (@pss_cons _ _ _ _ _ (@ps_if _ _ _ _ _ _ _ _ (@PW.pt _ _ _ (@pw_or _ _ _ _ _ _ _ (@pt_cmpR _ _ _ _ _ _ _ _ op_eq (@pe_ix _ _ _ _ _ _ _ ix_M (pv 1) (pv 2) (fun _ _ => rfl)) pe_int (@nomark _ _ (by decide) (by decide))) (@pw_or1 _ _ _ _ (@pt_cmpR _ _ _ _ _ _ _ _ op_ne (@pe_cal _ _ _ _ _ _ _ _ _ _ C_l_odd hr rfl (@pa_cons _ _ _ _ _ (@pe_ix _ _ _ _ _ _ _ ix_M (pv 0) (pv 2) (fun _ _ => rfl)) pa_nil (by rfl)) (by decide) (by rfl) (by rfl)) (@pe_cal _ _ _ _ _ _ _ _ _ _ C_l_odd hr rfl (@pa_cons _ _ _ _ _ (@pe_ix _ _ _ _ _ _ _ ix_M (pv 1) (pv 2) (fun _ _ => rfl)) pa_nil (by rfl)) (by decide) (by rfl) (by rfl)) (@nomark _ _ (by decide) (by decide)))))) (@pss_one _ _ _ (@ps_ret _ _ _ _ pe_bl)) pss_nil) (@pss_one _ _ _ (@ps_ret _ _ _ _ (@pe_cmpR _ _ _ _ _ _ _ _ (@op_eqD _ _ hr) (@pe_comp0 _ _ _ _ _ _ _ _ (["_law_k", "_law_one", "_law_other", "_law_at"]) (1) ([0, 1, 2]) _ _ _ rfl (@pi_range1 _ _ _ _ _ _ rfl B.range (@pa_cons _ _ _ _ _ (@pe_callB _ _ _ _ _ _ _ _ _ call_lenM rfl B.len bo_len (@pa_cons _ _ _ _ _ (pv 0) pa_nil (by rfl)) (by decide) (by decide) (by rfl) (by rfl)) pa_nil (by rfl)) (by rfl)) (fun nd C s H fp => ⟨(@pg_name _ _ (0) _ nd rfl (by first | exact Or.inl rfl | exact Or.inr rfl) (by first | exact .inl rfl | exact .inr rfl | assumption)), (@pn_one _ _ _ (@pt_cmpR _ _ _ _ _ _ _ _ op_ne (@pe_op _ _ _ _ _ _ _ _ op_mulB (@pe_ix _ _ _ _ _ _ _ ix_M (pv 1) (pv 0) (fun _ _ => rfl)) (@pe_ix _ _ _ _ _ _ _ ix_M (pv 2) (pv 3) (fun _ _ => rfl))) (@pe_op _ _ _ _ _ _ _ _ op_mulB (@pe_ix _ _ _ _ _ _ _ ix_M (pv 2) (pv 0) (fun _ _ => rfl)) (@pe_ix _ _ _ _ _ _ _ ix_M (pv 1) (pv 3) (fun _ _ => rfl))) (@nomark _ _ (by decide) (by decide)))), (pv 0)⟩) (by decide +kernel) (by first | rfl | decide +kernel) (by first | rfl | decide +kernel) rfl (fun _ => rfl)) (@pe_lst _ _ _ _ pa_nil) (@nomark _ _ (by decide) (by decide)))))))), ?_⟩
  rw [show start ["_law_one", "_law_other", "_law_at"] [.ref l, .ref m] = [some (.ref l), some (.ref m), none] from rfl]
  (iterate 5 ((try (walk_at "WP")); (try (simp only [hl, Option.some.injEq, HO.tup.injEq, HO.lst.injEq, HO.dK.injEq, exists_eq_left', exists_eq_left])))); (try (walk_at "WP"))
  rw [List.length_map]
  refine ⟨by omega, by omega, ?_⟩
  rw [Int.toNat_natCast]
  refine comp_R (f := plV fun i => decide (one.getD i 0 ≠ 0)) (le_size (by omega)) (fun y H' R hy hS' hR => ?_) (fun al nal => ?_)
  · obtain ⟨k, hk, rfl⟩ := List.mem_map.mp hy
    have kl := List.mem_range.mp hk
    rw [show capV [0] [some (V.ref l), some (V.ref m), none] = [some (V.ref l)] from rfl]
    have ek := List.getElem?_eq_getElem kl
    have hl' := hS' _ _ hl
    have ea : atI (one.map V.int) (0 + (k : Int)) = some (.int one[k]) := by rw [Int.zero_add]; exact atI_nat (by rw [List.getElem?_map, ek]; rfl)
    (iterate 5 ((try (walk_at "WP")); (try (simp only [hl', Option.some.injEq, HO.tup.injEq, HO.lst.injEq, HO.dK.injEq, exists_eq_left', exists_eq_left])))); (try (walk_at "WP"))
    refine ⟨_, ea, ?_⟩
    try walk_at "WP"
    have e : plV (fun i => decide (one.getD i 0 ≠ 0)) (V.int (0 + (k : Int))) = if one[k] ≠ 0 then some (.int (0 + (k : Int))) else none := by
      unfold plV
      simp only [Int.zero_add, Int.toNat_natCast, getD_of ek, decide_eq_true_eq]
    rw [e] at hR
    refine ite2 (fun z => ?_) (fun z => ?_)
    · rw [if_pos z] at hR
      exact hR
    · rw [if_neg z] at hR
      exact hR
  rw [plV_map]
  refine abs_ nal fun H1 s1 h1 => ?_
  obtain ⟨i0, rest, ef⟩ : ∃ i0 rest, ((List.range one.length).filter fun i => decide (one.getD i 0 ≠ 0)) = i0 :: rest := by
    obtain ⟨x, hx⟩ := Classical.not_forall.mp hnz
    obtain ⟨hx1, hx2⟩ := Classical.not_imp.mp hx
    obtain ⟨i, hi⟩ := List.getElem?_of_mem hx1
    have il := (List.getElem?_eq_some_iff.mp hi).1
    exact List.exists_cons_of_ne_nil (List.ne_nil_of_mem (List.mem_filter.mpr ⟨List.mem_range.mpr il, decide_eq_true (by rw [getD_of hi]; exact hx2)⟩))
  rw [ef] at h1
  have i0m : i0 ∈ (List.range one.length).filter fun i => decide (one.getD i 0 ≠ 0) := by rw [ef]; exact List.mem_cons_self
  obtain ⟨i0r, i0z⟩ := List.mem_filter.mp i0m
  have i0l := List.mem_range.mp i0r
  have eo := List.getElem?_eq_getElem i0l
  have eb := List.getElem?_eq_getElem (show i0 < other.length by omega)
  have x0 : one[i0] ≠ 0 := by have := of_decide_eq_true i0z; rwa [getD_of eo] at this
  generalize hx : one[i0] = x at eo x0
  generalize hy : other[i0]'(by omega) = y at eb
  have ax : atI (one.map V.int) (i0 : Int) = some (.int x) := atI_nat (by rw [List.getElem?_map, eo]; rfl)
  have ay : atI (other.map V.int) (i0 : Int) = some (.int y) := atI_nat (by rw [List.getElem?_map, eb]; rfl)
  have l1 := s1 _ _ hl
  have m1 := s1 _ _ hm
  have a0 : atI ((i0 :: rest).map fun (i : Nat) => V.int (i : Int)) 0 = some (V.int (i0 : Int)) := atI_nat (j := 0) rfl
  (iterate 5 ((try (walk_at "WP")); (try (simp only [h1, Option.some.injEq, HO.tup.injEq, HO.lst.injEq, HO.dK.injEq, exists_eq_left', exists_eq_left])))); (try (walk_at "WP"))
  refine ⟨_, a0, ?_⟩
  (iterate 5 ((try (walk_at "WP")); (try (simp only [m1, Option.some.injEq, HO.tup.injEq, HO.lst.injEq, HO.dK.injEq, exists_eq_left', exists_eq_left])))); (try (walk_at "WP"))
  refine ⟨_, ay, ?_⟩
  try walk_at "WP"
  refine ite2 (fun z => q false _ s1 (fun z => by cases z) (fun fs k j g s F G => absurd z (same_nz F G eo eb x0).1)) (fun y0 => ?_)
  (iterate 5 ((try (walk_at "WP")); (try (simp only [l1, Option.some.injEq, HO.tup.injEq, HO.lst.injEq, HO.dK.injEq, exists_eq_left', exists_eq_left])))); (try (walk_at "WP"))
  refine ⟨_, ax, ?_⟩
  refine ⟨x, rfl, x0, hb1 x (List.mem_of_getElem? eo), ?_⟩
  (iterate 5 ((try (walk_at "WP")); (try (simp only [m1, Option.some.injEq, HO.tup.injEq, HO.lst.injEq, HO.dK.injEq, exists_eq_left', exists_eq_left])))); (try (walk_at "WP"))
  refine ⟨_, ay, ?_⟩
  refine ⟨y, rfl, y0, hb2 y (List.mem_of_getElem? eb), ?_⟩
  (iterate 5 ((try (walk_at "WP")); (try (simp only [l1, Option.some.injEq, HO.tup.injEq, HO.lst.injEq, HO.dK.injEq, exists_eq_left', exists_eq_left])))); (try (walk_at "WP"))
  refine ite2 (fun z => q false _ s1 (fun z => by cases z) (fun fs k j g s F G => absurd (same_nz F G eo eb x0).2 (by omega))) (fun ec => ?_)
  rw [List.length_map]
  refine ⟨by omega, by omega, ?_⟩
  rw [Int.toNat_natCast]
  refine comp_R (f := plV fun i => decide (one.getD i 0 * y ≠ other.getD i 0 * x)) (le_size (by omega)) (fun v H' R hv hS' hR => ?_) (fun bl nbl => ?_)
  · obtain ⟨k, hk, rfl⟩ := List.mem_map.mp hv
    have kl := List.mem_range.mp hk
    rw [show capV [0, 1, 2] [some (V.ref l), some (V.ref m), some (V.int (i0 : Int))] = [some (V.ref l), some (V.ref m), some (V.int (i0 : Int))] from rfl]
    have ek := List.getElem?_eq_getElem kl
    have ek2 := List.getElem?_eq_getElem (show k < other.length by omega)
    have l2 := hS' _ _ l1
    have m2 := hS' _ _ m1
    have ea : atI (one.map V.int) (0 + (k : Int)) = some (.int one[k]) := by rw [Int.zero_add]; exact atI_nat (by rw [List.getElem?_map, ek]; rfl)
    have eb2 : atI (other.map V.int) (0 + (k : Int)) = some (.int (other[k]'(by omega))) := by rw [Int.zero_add]; exact atI_nat (by rw [List.getElem?_map, ek2]; rfl)
    (iterate 5 ((try (walk_at "WP")); (try (simp only [l2, m2, Option.some.injEq, HO.tup.injEq, HO.lst.injEq, HO.dK.injEq, exists_eq_left', exists_eq_left])))); (try (walk_at "WP"))
    refine ⟨_, ea, _, ay, ?_⟩
    have b1 := hb1 _ (List.mem_of_getElem? ek)
    have b2 := hb2 _ (List.mem_of_getElem? ek2)
    have b3 := hb1 x (List.mem_of_getElem? eo)
    have b4 := hb2 y (List.mem_of_getElem? eb)
    try walk_at "WP"
    refine ⟨mul_b b1 b4 (by decide), _, m2, _, eb2, ?_⟩
    (iterate 5 ((try (walk_at "WP")); (try (simp only [l2, Option.some.injEq, HO.tup.injEq, HO.lst.injEq, HO.dK.injEq, exists_eq_left', exists_eq_left])))); (try (walk_at "WP"))
    refine ⟨_, ax, ?_⟩
    try walk_at "WP"
    refine ⟨mul_b b2 b3 (by decide), ?_⟩
    have e : plV (fun i => decide (one.getD i 0 * y ≠ other.getD i 0 * x)) (V.int (0 + (k : Int))) = if one[k] * y ≠ (other[k]'(by omega)) * x then some (.int (0 + (k : Int))) else none := by
      unfold plV
      simp only [Int.zero_add, Int.toNat_natCast, getD_of ek, getD_of ek2, decide_eq_true_eq]
    rw [e] at hR
    refine ite2 (fun z => ?_) (fun z => ?_)
    · rw [if_pos z] at hR
      exact hR
    · rw [if_neg z] at hR
      exact hR
  rw [plV_map]
  refine abs_ nbl fun H2 s2 h2 => ?_
  try walk_at "WP"
  intro e3 n3
  refine abs_ n3 fun H3 s3 h3 => ?_
  have em : (((List.range one.length).filter fun i => decide (one.getD i 0 * y ≠ other.getD i 0 * x)).map fun (i : Nat) => V.int (i : Int)) = (((List.range one.length).filter fun i => decide (one.getD i 0 * y ≠ other.getD i 0 * x)).map fun (i : Nat) => (i : Int)).map V.int := by rw [List.map_map]; rfl
  rw [em] at h2
  refine eqLI (ms := []) (SqL.of (s3 _ _ h2)) (SqL.of h3) ?_
  refine q _ _ ((s1.trans s2).trans s3) (fun hb => ?_) (fun fs k j g s F G => decide_eq_true ?_)
  · have hb := of_decide_eq_true hb
    refine ⟨i0, x, y, eo, x0, eb, y0, by omega, fun j u v hu hv => Classical.byContradiction fun ne => ?_⟩
    have jl := (List.getElem?_eq_some_iff.mp hu).1
    have : (j : Int) ∈ (((List.range one.length).filter fun i => decide (one.getD i 0 * y ≠ other.getD i 0 * x)).map fun (i : Nat) => (i : Int)) := List.mem_map.mpr ⟨j, List.mem_filter.mpr ⟨List.mem_range.mpr jl, decide_eq_true (by rw [getD_of hu, getD_of hv]; exact ne)⟩, rfl⟩
    rw [hb] at this
    cases this
  · rw [List.filter_eq_nil_iff.mpr fun i hi c => ?_]
    · rfl
    · have il := List.mem_range.mp hi
      have e1 := List.getElem?_eq_getElem il
      have e2 := List.getElem?_eq_getElem (show i < other.length by omega)
      have := of_decide_eq_true c
      rw [getD_of e1, getD_of e2] at this
      exact this (same_prod F G eo eb e1 e2)
end

section
variable {P : Program} {w : World} {K : PySem.W.Frag} {mg : Str → Option Value} {base : Heap}
theorem ok_new28 (T : Txt K mg) : Cal P w K mg base 3 "_law_is_new" ["_law_things_by", "_law_line"] spNew28 := by
  have B := T.bl
  have C_l_like := ok_likeE (P := P) (w := w) (base := base) T
  refine mkCal T.t_l_is_new sc_l_is_new (fun vs H Q E h => ?_) (fun f cdv A outer s H vs Q E hr h => ?_)
  · obtain ⟨_, _, _, _, _, _, rfl, _⟩ := h
    rfl
  obtain ⟨tb, l, ts, ex, rs, row, rfl, htb, hrs, hl, l12, r100, hb, rb, q⟩ := h
  refine ⟨_, ((@pss_cons _ _ _ _ _ (@ps_if _ _ _ _ _ _ _ _ (@pt_cmpR _ _ _ _ _ _ _ _ (@op_eqD _ _ hr) (@pe_comp0 _ _ _ _ _ _ _ _ (["_law_number"]) (1) ([]) _ _ _ rfl (@pi_list _ _ _ _ (pv 1)) (fun nd C s H fp => ⟨(@pg_name _ _ (0) _ nd rfl (by first | exact Or.inl rfl | exact Or.inr rfl) (by first | exact .inl rfl | exact .inr rfl | assumption)), (@pn_one _ _ _ (@pt_cmpR _ _ _ _ _ _ _ _ op_ne (pv 0) pe_int (@nomark _ _ (by decide) (by decide)))), (pv 0)⟩) (by decide +kernel) (by first | rfl | decide +kernel) (by first | rfl | decide +kernel) rfl (fun _ => rfl)) (@pe_lst _ _ _ _ pa_nil) (@nomark _ _ (by decide) (by decide))) (@pss_one _ _ _ (@ps_ret _ _ _ _ pe_bl)) pss_nil) (@pss_one _ _ _ (@ps_ret _ _ _ _ (@pe_cmpR _ _ _ _ _ _ _ _ op_notIn_seq pe_bl (@pe_comp0 _ _ _ _ _ _ _ _ (["_law_other", "_law_line"]) (1) ([1]) _ _ _ rfl (@pi_list _ _ _ _ (pv 0)) (fun nd C s H fp => ⟨(@pg_name _ _ (0) _ nd rfl (by first | exact Or.inl rfl | exact Or.inr rfl) (by first | exact .inl rfl | exact .inr rfl | assumption)), pn_nil, (@pe_cal _ _ _ _ _ _ _ _ _ _ C_l_like hr rfl (@pa_cons _ _ _ _ _ (pv 1) (@pa_cons _ _ _ _ _ (pv 0) pa_nil (by rfl)) (by rfl)) (by decide) (by rfl) (by rfl))⟩) (by decide +kernel) (by first | rfl | decide +kernel) (by first | rfl | decide +kernel) rfl (fun _ => rfl)) (by with_unfolding_all rfl)))))), ?_⟩
  rw [show start ["_law_things_by", "_law_line"] [.ref tb, .ref l] = [some (.ref tb), some (.ref l)] from rfl]
  try walk_at "WP"
  refine ⟨⟨_, SqL.of hl⟩, ?_⟩
  refine comp_L (f := nzV) (SqL.of hl) (by rw [List.length_map]; exact le_big (by omega)) (fun y H' R hy hS' hR => ?_) (fun al nal => ?_)
  · obtain ⟨n, hn, rfl⟩ := List.mem_map.mp hy
    try walk_at "WP"
    unfold nzV at hR
    dsimp only at hR
    refine ite2 (fun z => ?_) (fun z => ?_)
    · rw [if_pos z] at hR
      exact hR
    · rw [if_neg z] at hR
      exact hR
  rw [nz_map]
  refine abs_ nal fun H1 s1 h1 => ?_
  intro el nel
  refine abs_ nel fun H2 s2 h2 => ?_
  refine eqLI (ms := []) (SqL.of (s2 _ _ h1)) (SqL.of h2) ?_
  have s12 := s1.trans s2
  try walk_at "WP"
  refine ite2 (fun z => ?_) (fun z => ?_)
  · refine q _ _ s12 ⟨fun y => (by cases y), fun ⟨⟨x, hx, x0⟩, _⟩ => ?_⟩
    have z' : (row.filter fun x => decide (x ≠ 0)) = [] := by simpa using z
    exact absurd (List.filter_eq_nil_iff.mp z' x hx) (by simpa using x0)
  have nz : ∃ x ∈ row, x ≠ 0 := Classical.byContradiction fun c => z (by
    have : (row.filter fun x => decide (x ≠ 0)) = [] := List.filter_eq_nil_iff.mpr fun x hx c' => c ⟨x, hx, of_decide_eq_true c'⟩
    simpa using this)
  have htb2 := s12 _ _ htb
  refine ⟨⟨_, SqL.of htb2⟩, ?_⟩
  refine comp_bool (fun r b => (b = true → LikeR row r) ∧ (SameF row r → b = true)) (xs := rs) htb2 hrs.len (fun i r hi => ?_) (by omega) (fun i p r H' R hi hp s' hR => ?_) (fun acc bs H3 n3 s3 h3 bl hB => ?_)
  · obtain ⟨la, e1, e2, e3⟩ := hrs.at_ i r hi
    first | exact ⟨la, e1, s12 _ _ e2⟩ | exact ⟨la, e1, s12 _ _ e3⟩
  · rw [show capV [1] [some (V.ref tb), some (V.ref l)] = [some (V.ref l)] from rfl]
    obtain ⟨r1, r2⟩ := hb r (List.mem_of_getElem? hi)
    try walk_at "WP"
    exact ⟨l, p, row, r, rfl, (s12.trans s') _ _ hl, hp, by omega, l12, rb, r2, fun c => by obtain ⟨x, hx, x0⟩ := nz; exact x0 (c x hx), fun b H5 s5 h1 h2 => hR b H5 s5 ⟨h1, fun ⟨fs, k, j, g, s, F, G⟩ => h2 fs k j g s F G⟩⟩
  · refine ⟨acc, _, rfl, .inl (SqL.of h3), rfl, flat_bl bs, ?_⟩
    rw [if_pos rfl, inV_bl]
    refine q _ _ (s12.trans s3) ⟨fun c => ⟨nz, fun r hr S => ?_⟩, fun ⟨_, c⟩ => ?_⟩
    · obtain ⟨i, hi⟩ := List.getElem?_of_mem hr
      have eb := List.getElem?_eq_getElem (l := bs) (i := i) (by rw [bl]; exact (List.getElem?_eq_some_iff.mp hi).1)
      have := (hB i _ r eb hi).2 S
      have any : bs.any id = true := List.any_eq_true.mpr ⟨_, List.mem_of_getElem? eb, this⟩
      rw [any] at c
      cases c
    · cases any : bs.any id with
      | false => rfl
      | true =>
        obtain ⟨b, hb1, hb2⟩ := List.any_eq_true.mp any
        obtain ⟨i, hi⟩ := List.getElem?_of_mem hb1
        have er := List.getElem?_eq_getElem (l := rs) (i := i) (by rw [← bl]; exact (List.getElem?_eq_some_iff.mp hi).1)
        exact absurd (like_same (hb _ (List.mem_of_getElem? er)).1.symm ((hB i b _ hi er).1 hb2)) (c _ (List.mem_of_getElem? er))
end

section
variable {P : Program} {w : World} {K : PySem.W.Frag} {mg : Str → Option Value} {base : Heap}
theorem ok_deed28 (T : Txt K mg) : Cal P w K mg base 3 "_law_deed" ["_law_pen_here", "_law_things_by", "_law_first"] (spDeed28 K) := by
  have B := T.bl
  have C_l_take := (ok_ltake (P := P) (w := w) (base := base) T).mono (k := 2) (by decide)
  have C_l_shift := ok_shiftX (P := P) (w := w) (base := base) T
  refine mkCal T.t_l_deed sc_l_deed (fun vs H Q E h => ?_) (fun f cdv A outer s H vs Q E hr h => ?_)
  · obtain ⟨_, _, _, _, _, _, _, _, _, rfl, _⟩ := h
    rfl
  obtain ⟨p, a, tb, ns, c, ts, ex, rs, fi, rfl, hP, hS, h63, hc, htb, hrs, hpe, tbp, hfi, r100, r12, q⟩ := h
  have tl : ts.length = rs.length := hrs.len
  refine ⟨_, ((@pss_cons _ _ _ _ _ (@ps_set _ _ (3) _ _ _ _ sc_l_deed.nd rfl (by first | exact Or.inl rfl | exact Or.inr rfl) (@pe_cal _ _ _ _ _ _ _ _ _ _ C_l_take hr rfl (@pa_cons _ _ _ _ _ (pv 0) (@pa_cons _ _ _ _ _ (@pe_callB _ _ _ _ _ _ _ _ _ call_lenM rfl B.len bo_len (@pa_cons _ _ _ _ _ (pv 1) pa_nil (by rfl)) (by decide) (by decide) (by rfl) (by rfl)) pa_nil (by rfl)) (by rfl)) (by decide) (by rfl) (by rfl)) (by rfl) (by first | exact .inl rfl | exact .inr rfl | assumption)) (@pss_cons _ _ _ _ _ (@ps_set _ _ (4) _ _ _ _ sc_l_deed.nd rfl (by first | exact Or.inl rfl | exact Or.inr rfl) (@pe_cal _ _ _ _ _ _ _ _ _ _ C_l_shift hr rfl (@pa_cons _ _ _ _ _ (pv 0) (@pa_cons _ _ _ _ _ (@pe_ix _ _ _ _ _ _ _ ix_M (pv 1) (pv 2) (fun _ _ => rfl)) pa_nil (by rfl)) (by rfl)) (by decide) (by rfl) (by rfl)) (by rfl) (by first | exact .inl rfl | exact .inr rfl | assumption)) (@pss_cons _ _ _ _ _ (@ps_set _ _ (5) _ _ _ _ sc_l_deed.nd rfl (by first | exact Or.inl rfl | exact Or.inr rfl) (@pe_cal _ _ _ _ _ _ _ _ _ _ C_l_shift hr rfl (@pa_cons _ _ _ _ _ (pv 0) (@pa_cons _ _ _ _ _ (@pe_ix _ _ _ _ _ _ _ ix_M (pv 1) (pv 3) (fun _ _ => rfl)) pa_nil (by rfl)) (by rfl)) (by decide) (by rfl) (by rfl)) (by rfl) (by first | exact .inl rfl | exact .inr rfl | assumption)) (@pss_cons _ _ _ _ _ (@ps_set _ _ (6) _ _ _ _ sc_l_deed.nd rfl (by first | exact Or.inl rfl | exact Or.inr rfl) (@pe_ix _ _ _ _ _ _ _ ix_M (@pe_lst _ _ _ _ (@pa_cons _ _ _ _ _ pe_str (@pa_cons _ _ _ _ _ pe_str pa_nil (by rfl)) (by rfl))) (@pe_cal _ _ _ _ _ _ _ _ _ _ C_l_take hr rfl (@pa_cons _ _ _ _ _ (pv 0) (@pa_cons _ _ _ _ _ pe_int pa_nil (by rfl)) (by rfl)) (by decide) (by rfl) (by rfl)) (fun _ _ => rfl)) (by rfl) (by first | exact .inl rfl | exact .inr rfl | assumption)) (@pss_one _ _ _ (@ps_ret _ _ _ _ (@pe_ix _ _ _ _ _ _ _ ix_M (@pe_lst _ _ _ _ (@pa_cons _ _ _ _ _ (@pe_tup _ _ _ _ _ (@pa_cons _ _ _ _ _ (pv 6) (@pa_cons _ _ _ _ _ (pv 2) (@pa_cons _ _ _ _ _ (pv 4) (@pa_cons _ _ _ _ _ (pv 3) (@pa_cons _ _ _ _ _ (pv 5) pa_nil (by rfl)) (by rfl)) (by rfl)) (by rfl)) (by rfl))) (@pa_cons _ _ _ _ _ (@pe_tup _ _ _ _ _ (@pa_cons _ _ _ _ _ (pv 6) (@pa_cons _ _ _ _ _ (pv 3) (@pa_cons _ _ _ _ _ (pv 5) (@pa_cons _ _ _ _ _ (pv 2) (@pa_cons _ _ _ _ _ (pv 4) pa_nil (by rfl)) (by rfl)) (by rfl)) (by rfl)) (by rfl))) pa_nil (by rfl)) (by rfl))) (@pe_cal _ _ _ _ _ _ _ _ _ _ C_l_take hr rfl (@pa_cons _ _ _ _ _ (pv 0) (@pa_cons _ _ _ _ _ pe_int pa_nil (by rfl)) (by rfl)) (by decide) (by rfl) (by rfl)) (fun _ _ => rfl))))))))), ?_⟩
  rw [show start ["_law_pen_here", "_law_things_by", "_law_first", "_law_other", "_law_s", "_law_t", "_law_word"] [.ref p, .ref tb, .int (fi : Int)] = [some (.ref p), some (.ref tb), some (.int (fi : Int)), none, none, none, none] from rfl]
  (iterate 5 ((try (walk_at "WP")); (try (simp only [htb, Option.some.injEq, HO.tup.injEq, HO.lst.injEq, HO.dK.injEq, exists_eq_left', exists_eq_left])))); (try (walk_at "WP"))
  refine ltake_ hP hS h63 (by omega) (by omega) (by omega) fun ob H1 o0 o1 P1 S1 C1 => ?_
  obtain ⟨oth, rfl⟩ := Int.eq_ofNat_of_zero_le o0
  have htb1 := C1 _ _ tbp htb
  obtain ⟨la, rowa, ea, ea1, ea2, ea3, ea4⟩ := row_of hrs hfi
  obtain ⟨lb, rowb, eb, eb1, eb2, eb3, eb4⟩ := row_of hrs (j := oth) (by omega)
  have lap := ea4 p hpe
  have lbp := eb4 p hpe
  (iterate 5 ((try (walk_at "WP")); (try (simp only [htb1, Option.some.injEq, HO.tup.injEq, HO.lst.injEq, HO.dK.injEq, exists_eq_left', exists_eq_left])))); (try (walk_at "WP"))
  refine ⟨_, ea1, ?_⟩
  refine ⟨p, a, la, ns, _, rowa, rfl, P1, S1, h63, by omega, C1 _ _ lap ea2, by have := r12 _ ea3; omega, lap, fun sa H2 hsa P2 S2 C2 => ?_⟩
  have C2' := C1.trans C2
  refine ⟨_, C2' _ _ tbp htb, _, eb1, p, a, lb, ns, _, rowb, rfl, P2, S2, h63, by omega, C2' _ _ lbp eb2, by have := r12 _ eb3; omega, lbp, fun sb H3 hsb P3 S3 C3 => ?_⟩
  have C3' := C2'.trans C3
  intro wl nwl
  have s1 := same_new nwl (.lst [V.str (Str.ofString "sum"), V.str (Str.ofString "less")])
  refine ltake_ (P3.same s1) (S3.same s1) h63 (by omega) (by decide) (by decide) fun r6 H4 r60 r61 P4 S4 C4 => ?_
  have hw4 := C4 wl _ (P3.ne nwl) upd_same
  have C4' := (C3'.trans s1.chg).trans C4
  have hw : ∃ wd : Str, atI [V.str (Str.ofString "sum"), V.str (Str.ofString "less")] r6 = some (.str wd) ∧ (wd = "sum" ∨ wd = "less") := by
    have two : r6 = 0 ∨ r6 = 1 := by omega
    rcases two with z | z <;> subst z
    · exact ⟨_, rfl, .inl rfl⟩
    · exact ⟨_, rfl, .inr rfl⟩
  obtain ⟨wd, hwd, hws⟩ := hw
  refine ⟨wl, _, r6, _, rfl, rfl, hw4, hwd, fun t1 n1 t2 n2 l3 n3 => ?_⟩
  have e1 := same_new n1 (.tup [V.str wd, V.int (fi : Int), V.int sa, V.int (oth : Int), V.int sb])
  have e2 := same_new n2 (.tup [V.str wd, V.int (oth : Int), V.int sb, V.int (fi : Int), V.int sa])
  have e3 := same_new n3 (.lst [V.ref t1, V.ref t2])
  have e23 := e2.trans e3
  have e13 := e1.trans e23
  have l3p := (P4.same (e1.trans e2)).ne n3
  have t1p := P4.ne n1
  have t2p := (P4.same e1).ne n2
  refine ltake_ (P4.same e13) (S4.same e13) h63 (by omega) (by decide) (by decide) fun r7 H5 r70 r71 P5 S5 C5 => ?_
  have k1 := C5 _ _ t1p (e23 _ _ upd_same)
  have k2 := C5 _ _ t2p (e3 _ _ upd_same)
  have k3 := C5 _ _ l3p upd_same
  have C5' := (C4'.trans e13.chg).trans C5
  have P5' := P5.mono (d := c + 1000) (by omega)
  have two : r7 = 0 ∨ r7 = 1 := by omega
  rcases two with z | z
  · subst z
    exact ⟨l3, _, 0, .ref t1, rfl, rfl, k3, rfl, q t1 ⟨wd, fi, sa, oth, sb⟩ H5 (C4'.new t1p n1) k1 hws hfi (by show oth < _; omega) (.inl rfl) (by show Sh sa (rs.getD fi []); rw [getD_of ea]; exact hsa) (by show Sh sb (rs.getD oth []); rw [getD_of eb]; exact hsb) P5' S5 C5'⟩
  · subst z
    exact ⟨l3, _, 1, .ref t2, rfl, rfl, k3, rfl, q t2 ⟨wd, oth, sb, fi, sa⟩ H5 (C4'.new t2p (e1.free n2)) k2 hws (by show oth < _; omega) hfi (.inr rfl) (by show Sh sb (rs.getD oth []); rw [getD_of eb]; exact hsb) (by show Sh sa (rs.getD fi []); rw [getD_of ea]; exact hsa) P5' S5 C5'⟩
end

section
variable {P : Program} {w : World} {K : PySem.W.Frag} {mg : Str → Option Value} {base : Heap}
theorem ok_built (T : Txt K mg) : Cal P w K mg base 4 "_law_built" ["_law_pen_here"] (spBuilt K) := by
  have B := T.bl
  have C_l_take := (ok_ltake (P := P) (w := w) (base := base) T).mono (k := 3) (by decide)
  have C_l_shift := (ok_shiftX (P := P) (w := w) (base := base) T).mono (k := 3) (by decide)
  have C_l_come := (ok_come28 (P := P) (w := w) (base := base) T).mono (k := 3) (by decide)
  have C_l_is_new := ok_new28 (P := P) (w := w) (base := base) T
  have C_l_deed := ok_deed28 (P := P) (w := w) (base := base) T
  refine mkCal T.t_l_built sc_l_built (fun vs H Q E h => ?_) (fun f cdv A outer s H vs Q E hr h => ?_)
  · obtain ⟨_, _, _, _, rfl, _⟩ := h
    rfl
  obtain ⟨p, a, ns, c, rfl, hP0, hS0, h63, hc, q0⟩ := h
  refine ⟨_, ((@pss_cons _ _ _ _ _ (@ps_set _ _ (1) _ _ _ _ sc_l_built.nd rfl (by first | exact Or.inl rfl | exact Or.inr rfl) (@pe_ix _ _ _ _ _ _ _ ix_M (@pe_lst _ _ _ _ (@pa_cons _ _ _ _ _ pe_int (@pa_cons _ _ _ _ _ pe_int (@pa_cons _ _ _ _ _ (@pe_op _ _ _ _ _ _ _ _ op_add pe_int (@pe_cal _ _ _ _ _ _ _ _ _ _ C_l_take hr rfl (@pa_cons _ _ _ _ _ (pv 0) (@pa_cons _ _ _ _ _ pe_int pa_nil (by rfl)) (by rfl)) (by decide) (by rfl) (by rfl))) pa_nil (by rfl)) (by rfl)) (by rfl))) (@pe_cal _ _ _ _ _ _ _ _ _ _ C_l_take hr rfl (@pa_cons _ _ _ _ _ (pv 0) (@pa_cons _ _ _ _ _ pe_int pa_nil (by rfl)) (by rfl)) (by decide) (by rfl) (by rfl)) (fun _ _ => rfl)) (by rfl) (by first | exact .inl rfl | exact .inr rfl | assumption)) (@pss_mid _ _ _ _ _ (@ps_setCompC _ _ _ _ (2) _ _ _ _ _ _ _ (["_law_i", "_law_ins"]) (1) ([1]) _ _ _ rfl (@pi_range1 _ _ _ _ _ _ rfl B.range (@pa_cons _ _ _ _ _ (pv 1) pa_nil (by rfl)) (by rfl)) (fun nd C s H fp => ⟨(@pg_name _ _ (0) _ nd rfl (by first | exact Or.inl rfl | exact Or.inr rfl) (by first | exact .inl rfl | exact .inr rfl | assumption)), pn_nil, (@pe_comp0 _ _ _ _ _ _ _ _ (["_law_k", "_law_i"]) (1) ([0]) _ _ _ rfl (@pi_range1 _ _ _ _ _ _ rfl B.range (@pa_cons _ _ _ _ _ (pv 1) pa_nil (by rfl)) (by rfl)) (fun nd C s H fp => ⟨(@pg_name _ _ (0) _ nd rfl (by first | exact Or.inl rfl | exact Or.inr rfl) (by first | exact .inl rfl | exact .inr rfl | assumption)), pn_nil, (@pe_callTy _ _ _ _ _ _ _ _ _ call_int1 rfl B.int bo_int (@pa_cons _ _ _ _ _ (@pe_cmpR _ _ _ _ _ _ _ _ op_eq (pv 0) (pv 1) (@nomark _ _ (by decide) (by decide))) pa_nil (by rfl)) (by decide) (by decide) (by rfl) (by rfl))⟩) (by decide +kernel) (by first | rfl | decide +kernel) (by first | rfl | decide +kernel) rfl (fun _ => rfl))⟩) (by decide +kernel) (by first | rfl | decide +kernel) (by first | rfl | decide +kernel) rfl (fun _ => rfl) sc_l_built.nd rfl (by first | exact Or.inl rfl | exact Or.inr rfl) (by first | exact .inl rfl | exact .inr rfl) rfl) (@pss_cons _ _ _ _ _ (@ps_set _ _ (3) _ _ _ _ sc_l_built.nd rfl (by first | exact Or.inl rfl | exact Or.inr rfl) (@pe_lst _ _ _ _ pa_nil) (by rfl) (by first | exact .inl rfl | exact .inr rfl | assumption)) (@pss_mid _ _ _ _ _ (@ps_for _ _ _ _ _ _ _ _ PassesOwn.never rfl (@pi_range1 _ _ _ _ _ _ rfl B.range (@pa_cons _ _ _ _ _ (@pe_cal _ _ _ _ _ _ _ _ _ _ C_l_take hr rfl (@pa_cons _ _ _ _ _ (pv 0) (@pa_cons _ _ _ _ _ (@pe_ix _ _ _ _ _ _ _ ix_M (@pe_lst _ _ _ _ (@pa_cons _ _ _ _ _ pe_int (@pa_cons _ _ _ _ _ pe_int (@pa_cons _ _ _ _ _ pe_int pa_nil (by rfl)) (by rfl)) (by rfl))) (@pe_cal _ _ _ _ _ _ _ _ _ _ C_l_take hr rfl (@pa_cons _ _ _ _ _ (pv 0) (@pa_cons _ _ _ _ _ pe_int pa_nil (by rfl)) (by rfl)) (by decide) (by rfl) (by rfl)) (fun _ _ => rfl)) pa_nil (by rfl)) (by rfl)) (by decide) (by rfl) (by rfl)) pa_nil (by rfl)) (by rfl)) (@pg_name _ _ (4) _ sc_l_built.nd rfl (by first | exact Or.inl rfl | exact Or.inr rfl) (by first | exact .inl rfl | exact .inr rfl | assumption)) (@pss_cons _ _ _ _ _ (@ps_set _ _ (5) _ _ _ _ sc_l_built.nd rfl (by first | exact Or.inl rfl | exact Or.inr rfl) (@pe_cal _ _ _ _ _ _ _ _ _ _ C_l_deed hr rfl (@pa_cons _ _ _ _ _ (pv 0) (@pa_cons _ _ _ _ _ (pv 2) (@pa_cons _ _ _ _ _ (@pe_op _ _ _ _ _ _ _ _ op_sub (@pe_callB _ _ _ _ _ _ _ _ _ call_lenM rfl B.len bo_len (@pa_cons _ _ _ _ _ (pv 2) pa_nil (by rfl)) (by decide) (by decide) (by rfl) (by rfl)) pe_int) pa_nil (by rfl)) (by rfl)) (by rfl)) (by decide) (by rfl) (by rfl)) (by rfl) (by first | exact .inl rfl | exact .inr rfl | assumption)) (@pss_cons _ _ _ _ _ (@ps_set _ _ (6) _ _ _ _ sc_l_built.nd rfl (by first | exact Or.inl rfl | exact Or.inr rfl) (@pe_cal _ _ _ _ _ _ _ _ _ _ C_l_come hr rfl (@pa_cons _ _ _ _ _ (pv 2) (@pa_cons _ _ _ _ _ (pv 5) pa_nil (by rfl)) (by rfl)) (by decide) (by rfl) (by rfl)) (by rfl) (by first | exact .inl rfl | exact .inr rfl | assumption)) (@pss_one _ _ _ (@ps_if _ _ _ _ _ _ _ _ (@pt_val _ _ _ (@pe_cal _ _ _ _ _ _ _ _ _ _ C_l_is_new hr rfl (@pa_cons _ _ _ _ _ (pv 2) (@pa_cons _ _ _ _ _ (pv 6) pa_nil (by rfl)) (by rfl)) (by decide) (by rfl) (by rfl)) (by intro _ ; rfl)) (@pss_cons _ _ _ _ _ (@ps_expr _ _ _ _ (@pe_bm _ _ _ _ _ _ _ _ _ _ _ _ PySem.F.plainAttrs_list PySem.F.slot_list_append PySem.F.type_list_append mt_append (pv 3) (@pa_cons _ _ _ _ _ (pv 5) pa_nil (by rfl)) (by rfl) (by rfl) (by rfl) (by rfl) (by rfl)) (by rfl)) (@pss_one _ _ _ (@ps_expr _ _ _ _ (@pe_bm _ _ _ _ _ _ _ _ _ _ _ _ PySem.F.plainAttrs_list PySem.F.slot_list_append PySem.F.type_list_append mt_append (pv 2) (@pa_cons _ _ _ _ _ (pv 6) pa_nil (by rfl)) (by rfl) (by rfl) (by rfl) (by rfl) (by rfl)) (by rfl)))) pss_nil)))) (by intro _ ; rfl)) (@pss_cons _ _ _ _ _ (@ps_set _ _ (7) _ _ _ _ sc_l_built.nd rfl (by first | exact Or.inl rfl | exact Or.inr rfl) (@pe_lst _ _ _ _ (@pa_cons _ _ _ _ _ (@pe_tup _ _ _ _ _ (@pa_cons _ _ _ _ _ (@pe_op _ _ _ _ _ _ _ _ op_sub (@pe_callB _ _ _ _ _ _ _ _ _ call_lenM rfl B.len bo_len (@pa_cons _ _ _ _ _ (pv 2) pa_nil (by rfl)) (by decide) (by decide) (by rfl) (by rfl)) pe_int) (@pa_cons _ _ _ _ _ (@pe_cal _ _ _ _ _ _ _ _ _ _ C_l_shift hr rfl (@pa_cons _ _ _ _ _ (pv 0) (@pa_cons _ _ _ _ _ (@pe_ix _ _ _ _ _ _ _ ix_M (pv 2) (@pe_un _ _ _ _ _ _ un_neg pe_int) (fun _ _ => rfl)) pa_nil (by rfl)) (by rfl)) (by decide) (by rfl) (by rfl)) (@pa_cons _ _ _ _ _ (@pe_ix _ _ _ _ _ _ _ ix_M (@pe_lst _ _ _ _ (@pa_cons _ _ _ _ _ pe_int (@pa_cons _ _ _ _ _ (@pe_un _ _ _ _ _ _ un_neg pe_int) pa_nil (by rfl)) (by rfl))) (@pe_cal _ _ _ _ _ _ _ _ _ _ C_l_take hr rfl (@pa_cons _ _ _ _ _ (pv 0) (@pa_cons _ _ _ _ _ pe_int pa_nil (by rfl)) (by rfl)) (by decide) (by rfl) (by rfl)) (fun _ _ => rfl)) pa_nil (by rfl)) (by rfl)) (by rfl))) pa_nil (by rfl))) (by rfl) (by first | exact .inl rfl | exact .inr rfl | assumption)) (@pss_cons _ _ _ _ _ (@ps_for _ _ _ _ _ _ _ _ PassesOwn.never rfl (@pi_range1 _ _ _ _ _ _ rfl B.range (@pa_cons _ _ _ _ _ (@pe_cal _ _ _ _ _ _ _ _ _ _ C_l_take hr rfl (@pa_cons _ _ _ _ _ (pv 0) (@pa_cons _ _ _ _ _ pe_int pa_nil (by rfl)) (by rfl)) (by decide) (by rfl) (by rfl)) pa_nil (by rfl)) (by rfl)) (@pg_name _ _ (4) _ sc_l_built.nd rfl (by first | exact Or.inl rfl | exact Or.inr rfl) (by first | exact .inl rfl | exact .inr rfl | assumption)) (@pss_one _ _ _ (@ps_expr _ _ _ _ (@pe_bm _ _ _ _ _ _ _ _ _ _ _ _ PySem.F.plainAttrs_list PySem.F.slot_list_append PySem.F.type_list_append mt_append (pv 7) (@pa_cons _ _ _ _ _ (@pe_ix _ _ _ _ _ _ _ ix_M (@pe_lst _ _ _ _ (@pa_cons _ _ _ _ _ (@pe_tup _ _ _ _ _ (@pa_cons _ _ _ _ _ (@pe_cal _ _ _ _ _ _ _ _ _ _ C_l_take hr rfl (@pa_cons _ _ _ _ _ (pv 0) (@pa_cons _ _ _ _ _ (@pe_callB _ _ _ _ _ _ _ _ _ call_lenM rfl B.len bo_len (@pa_cons _ _ _ _ _ (pv 2) pa_nil (by rfl)) (by decide) (by decide) (by rfl) (by rfl)) pa_nil (by rfl)) (by rfl)) (by decide) (by rfl) (by rfl)) (@pa_cons _ _ _ _ _ pe_int (@pa_cons _ _ _ _ _ (@pe_un _ _ _ _ _ _ un_neg pe_int) pa_nil (by rfl)) (by rfl)) (by rfl))) (@pa_cons _ _ _ _ _ (@pe_tup _ _ _ _ _ (@pa_cons _ _ _ _ _ pe_int (@pa_cons _ _ _ _ _ pe_int (@pa_cons _ _ _ _ _ pe_int pa_nil (by rfl)) (by rfl)) (by rfl))) pa_nil (by rfl)) (by rfl))) (@pe_cal _ _ _ _ _ _ _ _ _ _ C_l_take hr rfl (@pa_cons _ _ _ _ _ (pv 0) (@pa_cons _ _ _ _ _ pe_int pa_nil (by rfl)) (by rfl)) (by decide) (by rfl) (by rfl)) (fun _ _ => rfl)) pa_nil (by rfl)) (by rfl) (by rfl) (by rfl) (by rfl) (by rfl)) (by rfl))) (by intro _ ; rfl)) (@pss_one _ _ _ (@ps_ret _ _ _ _ (@pe_lst _ _ _ _ (@pa_cons _ _ _ _ _ (@pe_tup _ _ _ _ _ (@pa_cons _ _ _ _ _ (pv 1) (@pa_cons _ _ _ _ _ (pv 3) (@pa_cons _ _ _ _ _ (pv 7) pa_nil (by rfl)) (by rfl)) (by rfl))) (@pa_cons _ _ _ _ _ (pv 2) pa_nil (by rfl)) (by rfl)))))))))))), ?_⟩
  rw [show start ["_law_pen_here", "_law_ins", "_law_things_by", "_law_deeds", "_law_k", "_law_deed_here", "_law_line", "_law_goals"] [.ref p] = [some (.ref p), none, none, none, none, none, none, none] from rfl]
  refine seq_in fun R_ hR_ => ?_
  try walk_at "WP"
  refine ltake_ hP0 hS0 h63 (by omega) (by decide) (by decide) fun q1 Ha q10 q11 Pa Sa Ca => ?_
  (try (walk_at "WP")); (try (refine seq_out hR_ ?_)); (try (refine seq_in fun R_ hR_ => ?_)); (try (walk_at "WP"))
  intro eI heI
  have sI := same_new heI (.lst [V.int 1, V.int 2, V.int (1 + q1)])
  refine ltake_ (Pa.same sI) (Sa.same sI) h63 (by omega) (by decide) (by decide) fun q2 Hb q20 q21 hP hS Cb => ?_
  have hHb := Cb eI _ (Pa.ne heI) upd_same
  (try (walk_at "WP")); (try (refine seq_out hR_ ?_)); (try (refine seq_in fun R_ hR_ => ?_)); (iterate 5 ((try (walk_at "WP")); (try (simp only [hHb, Option.some.injEq, HO.tup.injEq, HO.lst.injEq, HO.dK.injEq, exists_eq_left', exists_eq_left])))); (try (walk_at "WP"))
  have hIns : ∃ ins : Nat, atI [V.int 1, V.int 2, V.int (1 + q1)] q2 = some (.int (ins : Int)) ∧ 1 ≤ ins ∧ ins ≤ 12 := by
    have four : q2 = 0 ∨ q2 = 1 ∨ q2 = 2 := by omega
    rcases four with z | z | z <;> subst z
    · exact ⟨1, rfl, by omega, by omega⟩
    · exact ⟨2, rfl, by omega, by omega⟩
    · exact ⟨(1 + q1).toNat, by rw [Int.toNat_of_nonneg (by omega)]; rfl, by omega, by omega⟩
  obtain ⟨ins, hins, u0, u1⟩ := hIns
  refine ⟨_, hins, ?_⟩
  have Cab : Chg p H Hb := (Ca.trans sI.chg).trans Cb
  subst hR_
  refine mid_of (fun σ H3 => ∃ (tb : Addr) (vs : List V), σ = [some (.ref p), some (.int ins), some (.ref tb), none, none, none, none, none] ∧ Hb tb = none ∧ Same Hb H3 ∧ H3 tb = some (.lst vs) ∧ HRs H3 [tb, p] vs ((List.range ins).map (unitRow ins)) ∧ tb ≠ p) (fun N hN => ?_) ?_
  · try walk_at "WP"
    refine ⟨by omega, by omega, ?_⟩
    rw [Int.toNat_natCast]
    have hex : ∀ e ∈ [p], Hb e ≠ none := fun e he => by
      rw [List.mem_singleton.mp he]
      obtain ⟨xs, hx⟩ := hP.lst
      rw [hx]
      intro z
      cases z
    refine comp_rows (by omega) (unitRow ins) [p] hex (fun i Hb' R hi s' hR => ?_) (fun tb vs H3 hn s3 h3 hr3 => ?_)
    · rw [show capV [1] [some (V.ref p), some (V.int (ins : Int)), none, none, none, none, none, none] = [some (.int ins)] from rfl]
      try walk_at "WP"
      refine ⟨by omega, by omega, ?_⟩
      rw [Int.toNat_natCast]
      refine comp_R (f := unV i) (le_size (by omega)) (fun y H5 R5 hy s5 hR5 => ?_) (fun acc hacc => ?_)
      · obtain ⟨k, hk, rfl⟩ := List.mem_map.mp hy
        rw [show capV [0] [some (V.int (0 + (i : Int))), some (V.int (ins : Int))] = [some (V.int (0 + (i : Int)))] from rfl]
        try walk_at "WP"
        rw [show (0 : Int) + (i : Int) = i by omega]
        exact hR5
      · rw [unV_map]
        exact hR acc _ hacc (same_new hacc _) upd_same
    · exact hN _ _ ⟨tb, vs, rfl, hn, s3, h3, hr3, hP.ne hn⟩
  · rintro σ H3 ⟨tb, vs, rfl, ntb, ss3, htb, hrs, tbp⟩
    have C3 : Chg p Hb H3 := ss3.chg
    have P3 := hP.same ss3
    have S3 := hS.same ss3
    try walk_at "WP"
    intro dl hdl
    have sd := same_new hdl (.lst [])
    have dlp : dl ≠ p := P3.ne hdl
    have tbd : tb ≠ dl := ne_of_none htb hdl
    have I0 : FI Hb p ins tb dl 0 vs [] [] (upd H3 dl (.lst [])) := by
      refine ⟨⟨sd _ _ htb, (hrs.new hdl).same sd, by simp [rowsW], fun r hr => ?_, fun r hr => ?_, upd_same, hts_nil, rfl, fun j d h => by simp at h, C3.trans sd.chg, ntb, C3.new dlp hdl, tbp, dlp, tbd⟩, fun k d h => by simp at h⟩
      · obtain ⟨i, _, rfl⟩ := List.mem_map.mp hr
        refine ⟨by rw [unitRow_len]; exact u1, fun n hn => ?_⟩
        rcases unitRow_bound hn with z | z <;> subst z <;> decide
      · obtain ⟨i, _, rfl⟩ := List.mem_map.mp hr
        exact unitRow_len _ _
    have P4 := P3.same sd
    have S4 := S3.same sd
    generalize upd H3 dl (.lst []) = H4 at I0 P4 S4 ⊢
    refine mid_of (fun σ H5 => ∃ (k : Nat) (vs us : List V) (ds : List Wd) (o4 o5 o6 : Option V), σ = [some (.ref p), some (.int ins), some (.ref tb), some (.ref dl), o4, o5, o6, none] ∧ k ≤ 40 ∧ FI Hb p ins tb dl k vs us ds H5 ∧ BareR ins ds ∧ (∀ (k : Nat) (d : Wd), ds[k]? = some d → d.a = ins + k - 1 ∨ d.b = ins + k - 1) ∧ LPen H5 p a (c + 50000) ∧ Scr K H5 a ns) (fun N hN => ?_) ?_
    · try walk_at "WP"
      intro e he
      have se := same_new he (.lst [V.int 4, V.int 9, V.int 41])
      refine ltake_ (P4.same se) (S4.same se) h63 (by omega) (by decide) (by decide) fun r3 H5 r30 r31 P5 S5 C5 => ?_
      have hH5 := C5 e _ (P4.ne he) upd_same
      (iterate 5 ((try (walk_at "WP")); (try (simp only [hH5, Option.some.injEq, HO.tup.injEq, HO.lst.injEq, HO.dK.injEq, exists_eq_left', exists_eq_left])))); (try (walk_at "WP"))
      have hat : ∃ u : Int, atI [V.int 4, V.int 9, V.int 41] r3 = some (.int u) ∧ 1 ≤ u ∧ u ≤ 41 := by
        have three : r3 = 0 ∨ r3 = 1 ∨ r3 = 2 := by omega
        rcases three with z | z | z <;> subst z <;> exact ⟨_, rfl, by omega, by omega⟩
      obtain ⟨u, hu, u2, u3⟩ := hat
      refine ⟨_, hu, ?_⟩
      refine ltake_ P5 S5 h63 (by omega) (by omega) (by omega) fun m H6 m0 m1 P6 S6 C6 => ?_
      try walk_at "WP"
      refine ⟨by omega, by omega, ?_⟩
      obtain ⟨n, rfl⟩ := Int.eq_ofNat_of_zero_le m0
      rw [Int.toNat_natCast]
      have I6 := ((I0.stepX P4 se.chg).stepX (P4.same se) C5).stepX P5 C6
      refine forR (fun i σ H7 => ∃ (k : Nat) (vs us : List V) (ds : List Wd) (o4 o5 o6 : Option V), σ = [some (.ref p), some (.int ins), some (.ref tb), some (.ref dl), o4, o5, o6, none] ∧ k ≤ i ∧ FI Hb p ins tb dl k vs us ds H7 ∧ BareR ins ds ∧ (∀ (k : Nat) (d : Wd), ds[k]? = some d → d.a = ins + k - 1 ∨ d.b = ins + k - 1) ∧ LPen H7 p a (c + 10 + 1000 * i) ∧ Scr K H7 a ns)
        ⟨0, vs, [], [], none, none, none, rfl, by omega, I6, bareR_nil ins, fun k d h => by simp at h, P6.mono (by omega), S6⟩ ?_ ?_
      · rintro i σ H7 N2 hi ⟨k, vs, us, ds, o4, o5, o6, rfl, hk, I7, B7, L7, P7, S7⟩ hN2
        have hT7 := I7.wi.tbl
        have hvl : vs.length = ins + k := by rw [I7.wi.hrs.len, I7.wi.rl]
        have hrl : (rowsW ins ds).length = ins + k := I7.wi.rl
        refine seq_inG fun R_ hR_ => ?_
        (iterate 5 ((try (walk_at "WP")); (try (simp only [hT7, Option.some.injEq, HO.tup.injEq, HO.lst.injEq, HO.dK.injEq, exists_eq_left', exists_eq_left])))); (try (walk_at "WP"))
        refine ⟨p, a, tb, ns, _, vs, [dl, tb, p], rowsW ins ds, ins + k - 1, ?_, P7, S7, h63, by omega, hT7, I7.wi.hrs, by simp, I7.wi.tp, by omega, by omega, fun r hr => (I7.wi.rb r hr).1, fun x d H8 nx hx dw da db dl1 sa sb P8 S8 C8 => ?_⟩
        · rw [show ((vs.length : Int) - 1) = ((ins + k - 1 : Nat) : Int) by omega]
        have I8 := I7.stepX P7 C8
        have hT8 := I8.wi.tbl
        (try (walk_at "WP")); (try (refine seq_out hR_ ?_)); (try (refine seq_in fun R_ hR_ => ?_)); (iterate 5 ((try (walk_at "WP")); (try (simp only [hT8, Option.some.injEq, HO.tup.injEq, HO.lst.injEq, HO.dK.injEq, exists_eq_left', exists_eq_left])))); (try (walk_at "WP"))
        have lenR : ∀ j, j < ins + k → ((rowsW ins ds).getD j []).length = ins := fun j hj => by
          have e := List.getElem?_eq_getElem (show j < (rowsW ins ds).length by omega)
          rw [getD_of e]
          exact I8.wi.rw_ _ (List.mem_of_getElem? e)
        have hlt : ∀ r ∈ rowsW ins ds, r.length ≤ 12 ∧ ∀ n ∈ r, n.natAbs < 2 ^ 9000 := fun r hr => ⟨(I8.wi.rb r hr).1, I8.wi.rb.lt hr (by omega)⟩
        refine ⟨tb, x, vs, [dl, tb, p], rowsW ins ds, d, rfl, hT8, I8.wi.hrs, hx, dw, da, db, sa.s4, sb.s4, by rw [lenR _ (by omega), lenR _ (by omega)], hlt, fun l H9 nl s9 hl => ?_⟩
        have I9 := I8.stepX P8 s9.chg
        have P9 := P8.same s9
        have S9 := S8.same s9
        have hx9 := s9 _ _ hx
        have hT9 := I9.wi.tbl
        obtain ⟨b1, b2⟩ := rowD_bound (d := d) I9.wi.rb I9.wi.rw_ (by omega) (by omega) sa.1 sa.2.1 sb.1 sb.2.1
        (try (walk_at "WP")); (try (refine seq_out hR_ ?_)); (try (refine seq_in fun R_ hR_ => ?_)); (iterate 5 ((try (walk_at "WP")); (try (simp only [hT9, Option.some.injEq, HO.tup.injEq, HO.lst.injEq, HO.dK.injEq, exists_eq_left', exists_eq_left])))); (try (walk_at "WP"))
        refine ⟨tb, l, vs, [dl, tb, p], rowsW ins ds, rowD (rowsW ins ds) d, rfl, hT9, I9.wi.hrs, hl, by omega, by omega, fun r hr => ⟨by rw [I9.wi.rw_ r hr, b1], (hlt r hr).2⟩, fun n hn => Nat.lt_of_le_of_lt (b2 n hn) (Nat.pow_lt_pow_right (by decide) (by omega)), fun b HA sA hb => ?_⟩
        have IA := I9.stepX P9 sA.chg
        have PA := P9.same sA
        have SA := S9.same sA
        subst hR_
        try walk_at "WP"
        refine ite2 (fun z => ?_) (fun z => ?_)
        · have hul : us.length = k := by rw [IA.wi.hds.len, IA.wi.dlen]
          refine ⟨ty_list IA.wi.dll, us, IA.wi.dll, Nat.lt_of_lt_of_le (by omega : us.length < 1000) (le_size (by decide)), ?_⟩
          have tB : (upd HA dl (.lst (us ++ [.ref x]))) tb = some (.lst vs) := by rw [upd_ne IA.wi.td]; exact IA.wi.tbl
          refine ⟨ty_list tB, vs, tB, Nat.lt_of_lt_of_le (by omega : vs.length < 1000) (le_size (by decide)), ?_⟩
          have nlp : l ≠ p := P8.ne nl
          have nld : l ≠ dl := (ne_of_none I8.wi.dll nl).symm
          have nlt : l ≠ tb := (ne_of_none I8.wi.tbl nl).symm
          have IB := IA.app2 u1 (sA _ _ hx9) (sA _ _ hl) nld nlt nlp (by omega) (by omega) dw sa sb
          refine hN2 _ _ ⟨k + 1, _, _, _, _, _, _, rfl, by omega, IB, bareR_snoc.mpr ⟨B7, hb.mp z⟩, fun j e he => ?_, ((PA.mono (by omega)).chg (q := dl) IA.wi.dp.symm (Chg.upd _)).chg (q := tb) IA.wi.tp.symm (Chg.upd _), (SA.chg IA.wi.dll (Chg.upd _)).chg tB (Chg.upd _)⟩
          rcases get_snoc he with ⟨hj, z⟩ | ⟨hj, rfl⟩
          · exact L7 j e z
          · rw [hj, IA.wi.dlen]; exact dl1
        · exact hN2 _ _ ⟨k, _, _, _, _, _, _, rfl, by omega, IA, B7, L7, PA.mono (by omega), SA⟩
      · rintro σ H7 ⟨k, vs, us, ds, o4, o5, o6, rfl, hk, I7, B7, L7, P7, S7⟩
        exact hN _ _ ⟨k, vs, us, ds, o4, o5, o6, rfl, by omega, I7, B7, L7, P7.mono (by omega), S7⟩
    · rintro σ H5 ⟨kk, vs, us, ds, o4, o5, o6, rfl, hkk, I5, B5, L5, P5, S5⟩
      have hT5 := I5.wi.tbl
      have hvl : vs.length = ins + kk := by rw [I5.wi.hrs.len, I5.wi.rl]
      have hrl : (rowsW ins ds).length = ins + kk := I5.wi.rl
      (iterate 5 ((try (walk_at "WP")); (try (simp only [hT5, Option.some.injEq, HO.tup.injEq, HO.lst.injEq, HO.dK.injEq, exists_eq_left', exists_eq_left])))); (try (walk_at "WP"))
      obtain ⟨la, rowa, ea, ea1, ea2, ea3, ea4⟩ := row_of I5.wi.hrs (j := ins + kk - 1) (by omega)
      have ea5 := I5.wi.rw_ _ ea3
      have eat : atI vs (-1) = some (.ref la) := by
        obtain ⟨la', e1, e2, e3⟩ := I5.wi.hrs.at_ (ins + kk - 1) _ ea
        have := atI_nat e1
        rw [ea1] at this
        cases this
        exact atI_back (by omega) (by rw [hvl]; exact e1)
      refine ⟨_, eat, p, a, la, ns, _, rowa, rfl, P5, S5, h63, by omega, ea2, by omega, ea4 p (by simp), fun sa H6 hsa P6 S6 C6 => ?_⟩
      have I6 := I5.stepX P5 C6
      intro e3 he3
      have s3 := same_new he3 (.lst [V.int 1, V.int (-1)])
      refine ltake_ (P6.same s3) (S6.same s3) h63 (by omega) (by decide) (by decide) fun r5 H7 r50 r51 P7 S7 C7 => ?_
      have hH7 := C7 e3 _ (P6.ne he3) upd_same
      have I7 := (I6.stepX P6 s3.chg).stepX (P6.same s3) C7
      (iterate 5 ((try (walk_at "WP")); (try (simp only [hH7, Option.some.injEq, HO.tup.injEq, HO.lst.injEq, HO.dK.injEq, exists_eq_left', exists_eq_left])))); (try (walk_at "WP"))
      have hsg : ∃ g : Int, atI [V.int 1, V.int (-1)] r5 = some (.int g) ∧ (g = 1 ∨ g = -1) := by
        have two : r5 = 0 ∨ r5 = 1 := by omega
        rcases two with z | z <;> subst z
        · exact ⟨1, rfl, .inl rfl⟩
        · exact ⟨-1, rfl, .inr rfl⟩
      obtain ⟨g, hg, hg0⟩ := hsg
      refine ⟨_, hg, ?_⟩
      try walk_at "WP"
      intro t1 ht1
      refine abs_ ht1 fun H8 s8 h8 => ?_
      intro gl hgl
      have sg := same_new hgl (.lst [V.ref t1])
      have I8 := I7.stepX P7 s8.chg
      have P8 := P7.same s8
      have S8 := S7.same s8
      have glp : gl ≠ p := P8.ne hgl
      have vle : ((vs.length : Nat) : Int) - 1 = ((ins + kk - 1 : Nat) : Int) := by omega
      rw [vle] at h8
      have h8' : (upd H8 gl (.lst [V.ref t1])) t1 = some (.tup (gTp ⟨ins + kk - 1, sa, g⟩)) := sg _ _ h8
      have G0 : FG Hb p ins tb dl gl kk vs us [V.ref t1] ds [⟨ins + kk - 1, sa, g⟩] (upd H8 gl (.lst [V.ref t1])) := ⟨⟨(I8.stepX P8 sg.chg).wi, (I8.wi.hrs.new hgl).same sg, upd_same, hts1 h8', (fun x h => by rw [List.mem_singleton.mp h]; show ins + kk - 1 < ins + kk; omega), I8.wi.chg.new glp hgl, glp, (ne_of_none I8.wi.dll hgl).symm, (ne_of_none I8.wi.tbl hgl).symm⟩, I8.sh, (fun x h => by rw [List.mem_singleton.mp h]; exact .inr ⟨hg0, by show Sh sa ((rowsW ins ds).getD (ins + kk - 1) []); rw [getD_of ea]; exact hsa⟩)⟩
      have P9 := P8.same sg
      have S9 := S8.same sg
      generalize upd H8 gl (.lst [V.ref t1]) = H9 at G0 P9 S9 ⊢
      try walk_at "WP"
      refine ltake_ P9 S9 h63 (by omega) (by omega) (by omega) fun m HA m0 m1 PA SA CA => ?_
      obtain ⟨n, rfl⟩ := Int.eq_ofNat_of_zero_le m0
      try walk_at "WP"
      refine ⟨by omega, by omega, ?_⟩
      rw [Int.toNat_natCast]
      have GA := G0.stepX P9 CA
      refine forR (fun j σ H9 => ∃ (os : List V) (gs : List Go) (o4 : Option V), σ = [some (.ref p), some (.int ins), some (.ref tb), some (.ref dl), o4, o5, o6, some (.ref gl)] ∧ FG Hb p ins tb dl gl kk vs us os ds gs H9 ∧ gs.length = j + 1 ∧ ⟨ins + kk - 1, sa, g⟩ ∈ gs ∧ LPen H9 p a (c + 60000 + 1000 * j) ∧ Scr K H9 a ns)
        ⟨_, _, o4, rfl, GA, rfl, List.mem_cons_self, PA.mono (by omega), SA⟩ ?_ ?_
      · rintro j σ H9 N2 hj ⟨os, gs, o4, rfl, G9, hgl9, hm9, P9, S9⟩ hN2
        have hT9 := G9.wg.wi.tbl
        (iterate 5 ((try (walk_at "WP")); (try (simp only [hT9, Option.some.injEq, HO.tup.injEq, HO.lst.injEq, HO.dK.injEq, exists_eq_left', exists_eq_left])))); (try (walk_at "WP"))
        refine ⟨ty_list G9.wg.gll, ltake_ P9 S9 h63 (by omega) (by omega) (by omega) fun ra HA ra0 ra1 PA SA CA => ?_⟩
        have GA := G9.stepX P9 CA
        obtain ⟨th, rfl⟩ := Int.eq_ofNat_of_zero_le ra0
        intro t1 ht1
        refine abs_ ht1 fun HB sB h1 => ?_
        have GB := GA.stepX PA sB.chg
        have PB := PA.same sB
        have SB := SA.same sB
        intro t2 ht2
        refine abs_ ht2 fun HC sC h2 => ?_
        have GC := GB.stepX PB sC.chg
        have PC := PB.same sC
        have SC := SB.same sC
        intro e5 he5
        refine abs_ he5 fun HD sD h5 => ?_
        have GD := GC.stepX PC sD.chg
        have PD := PC.same sD
        have SD := SC.same sD
        have t1p := PA.ne ht1
        have t2p := PB.ne ht2
        have e5p := PC.ne he5
        refine ltake_ PD SD h63 (by omega) (by decide) (by decide) fun r6 HE r60 r61 PE SE CE => ?_
        have GE := GD.stepX PD CE
        have m1 := CE _ _ t1p (sD _ _ (sC _ _ h1))
        have m2 := CE _ _ t2p (sD _ _ h2)
        have m5 := CE _ _ e5p h5
        have hol : os.length = j + 1 := by rw [GE.wg.hgs.len, hgl9]
        (iterate 5 ((try (walk_at "WP")); (try (simp only [m5, Option.some.injEq, HO.tup.injEq, HO.lst.injEq, HO.dK.injEq, exists_eq_left', exists_eq_left])))); (try (walk_at "WP"))
        have fin : ∀ (x : Addr) (g' : Go), HE x = some (.tup (gTp g')) → g'.th < ins + kk → (g' = ⟨0, 0, 0⟩ ∨ ((g'.sg = 1 ∨ g'.sg = -1) ∧ Sh g'.sh ((rowsW ins ds).getD g'.th []))) → ∃ xs, HE gl = some (.lst xs) ∧ xs.length < sizeLine ∧ N2 [some (V.ref p), some (V.int (ins : Int)), some (V.ref tb), some (V.ref dl), some (V.int (0 + (j : Int))), o5, o6, some (V.ref gl)] (upd HE gl (HO.lst (xs ++ [V.ref x]))) := fun x g' hx hg hs => ⟨os, GE.wg.gll, Nat.lt_of_lt_of_le (by omega : os.length < 1000) (le_size (by decide)), hN2 _ _ ⟨_, _, _, rfl, GE.app hx hg hs, by simp [hgl9], List.mem_append_left _ hm9, (PE.mono (by omega)).chg (q := gl) GE.wg.gp.symm (Chg.upd _), SE.chg GE.wg.gll (Chg.upd _)⟩⟩
        have two : r6 = 0 ∨ r6 = 1 := by omega
        rcases two with z | z <;> subst z
        · exact ⟨_, rfl, fin t1 ⟨th, 1, -1⟩ m1 (by show th < _; omega) (.inr ⟨.inr rfl, Sh.up28 _ (by show (0 : Int) ≤ 1; decide) (by show (1 : Int) ≤ 40; decide)⟩)⟩
        · exact ⟨_, rfl, fin t2 ⟨0, 0, 0⟩ m2 (by show 0 < _; omega) (.inl rfl)⟩
      · rintro σ H9 ⟨os, gs, o4, rfl, G9, hgl9, hm9, P9, S9⟩
        try walk_at "WP"
        intro w0 hw0
        have sw := same_new hw0 (.tup [V.int (ins : Int), V.ref dl, V.ref gl])
        have w0p := P9.ne hw0
        have hw1 : (upd H9 w0 (.tup [V.int (ins : Int), V.ref dl, V.ref gl])) w0 = some (.tup [V.int (ins : Int), V.ref dl, V.ref gl]) := upd_same
        have PB := P9.same sw
        have SB := S9.same sw
        generalize upd H9 w0 (.tup [V.int (ins : Int), V.ref dl, V.ref gl]) = HB at sw hw1 PB SB ⊢
        intro l hl
        have sl := same_new hl (.lst [V.ref w0, V.ref tb])
        have s2 := sw.trans sl
        have kd := G9.wg.wi.dlen
        refine q0 l w0 dl gl tb ins us ds os gs vs _ upd_same ⟨sl _ _ hw1, s2 _ _ G9.wg.wi.dll, G9.wg.wi.hds.same s2, s2 _ _ G9.wg.gll, G9.wg.hgs.same s2⟩ ⟨⟨u0, u1, G9.wg.wi.dk, ?_, ?_, ?_⟩, G9.sh, G9.go, ?_, G9.wg.wi.rw_⟩ (by omega) (by omega) (s2 _ _ G9.wg.wi.tbl) ((G9.wg.wi.hrs.sub (by simp)).same s2) (bareQ_iff.mpr ⟨B5, last_rch L5 ⟨_, hm9, by show g ≠ 0; rcases hg0 with z | z <;> rw [z] <;> decide, by rw [kd]⟩ u0⟩) G9.wg.wi.dp G9.wg.gp G9.wg.wi.tp (PB.ne hl) ((PB.same sl).mono (by omega)) (SB.same sl) (Cab.trans (G9.wg.wi.chg.trans s2.chg))
        · intro g hg
          rw [kd]
          exact G9.wg.gk g hg
        · rw [kd]; omega
        · omega
        · rw [kd]; exact G9.wg.wi.rb
end

section
variable {P : Program} {w : World} {K : PySem.W.Frag} {mg : Str → Option Value} {base : Heap}
theorem ok_bent (T : Txt K mg) : Cal P w K mg base 4 "_law_bent" ["_law_pen_here", "_law_web", "_law_things_by"] (spBent28 K) := by
  have B := T.bl
  have C_l_take := (ok_ltake (P := P) (w := w) (base := base) T).mono (k := 3) (by decide)
  have C_l_deed := ok_deed28 (P := P) (w := w) (base := base) T
  refine mkCal T.t_l_bent sc_l_bent (fun vs H Q E h => ?_) (fun f cdv A outer s H vs Q E hr h => ?_)
  · obtain ⟨_, _, _, _, _, _, _, _, _, _, _, _, _, _, rfl, _⟩ := h
    rfl
  obtain ⟨p, a, w0, dl, gl, tb, ns, c, ins, us, ds, os, gs, ts, rfl, P0, S0, h63, hc, W, F, d40, g3, htb, hrs, dp, gp, tp, q⟩ := h
  refine ⟨_, ((@pss_cons _ _ _ _ _ (@ps_asg _ _ _ _ _ _ (pv 1) (@pg_tupM _ _ _ _ _ 3 rfl (@pgs_cons _ _ _ _ _ (@pg_name _ _ (3) _ sc_l_bent.nd rfl (by first | exact Or.inl rfl | exact Or.inr rfl) (by first | exact .inl rfl | exact .inr rfl | assumption)) (@pgs_cons _ _ _ _ _ (@pg_name _ _ (4) _ sc_l_bent.nd rfl (by first | exact Or.inl rfl | exact Or.inr rfl) (by first | exact .inl rfl | exact .inr rfl | assumption)) (@pgs_cons _ _ _ _ _ (@pg_name _ _ (5) _ sc_l_bent.nd rfl (by first | exact Or.inl rfl | exact Or.inr rfl) (by first | exact .inl rfl | exact .inr rfl | assumption)) pgs_nil (by rfl)) (by rfl)) (by rfl)) (by rfl) (by rfl)) (by rfl) (by rfl) (by rfl)) (@pss_cons _ _ _ _ _ (@ps_set _ _ (6) _ _ _ _ sc_l_bent.nd rfl (by first | exact Or.inl rfl | exact Or.inr rfl) (@pe_callB _ _ _ _ _ _ _ _ _ call_lenM rfl B.len bo_len (@pa_cons _ _ _ _ _ (pv 2) pa_nil (by rfl)) (by decide) (by decide) (by rfl) (by rfl)) (by rfl) (by first | exact .inl rfl | exact .inr rfl | assumption)) (@pss_cons _ _ _ _ _ (@ps_set _ _ (7) _ _ _ _ sc_l_bent.nd rfl (by first | exact Or.inl rfl | exact Or.inr rfl) (@pe_cal _ _ _ _ _ _ _ _ _ _ C_l_take hr rfl (@pa_cons _ _ _ _ _ (pv 0) (@pa_cons _ _ _ _ _ (pv 6) pa_nil (by rfl)) (by rfl)) (by decide) (by rfl) (by rfl)) (by rfl) (by first | exact .inl rfl | exact .inr rfl | assumption)) (@pss_cons _ _ _ _ _ (@ps_set _ _ (8) _ _ _ _ sc_l_bent.nd rfl (by first | exact Or.inl rfl | exact Or.inr rfl) (@pe_cal _ _ _ _ _ _ _ _ _ _ C_l_take hr rfl (@pa_cons _ _ _ _ _ (pv 0) (@pa_cons _ _ _ _ _ pe_int pa_nil (by rfl)) (by rfl)) (by decide) (by rfl) (by rfl)) (by rfl) (by first | exact .inl rfl | exact .inr rfl | assumption)) (@pss_cons _ _ _ _ _ (@ps_set _ _ (9) _ _ _ _ sc_l_bent.nd rfl (by first | exact Or.inl rfl | exact Or.inr rfl) (@pe_tup _ _ _ _ _ (@pa_cons _ _ _ _ _ pe_str (@pa_cons _ _ _ _ _ (pv 7) (@pa_cons _ _ _ _ _ (pv 8) (@pa_cons _ _ _ _ _ (pv 7) (@pa_cons _ _ _ _ _ (pv 8) pa_nil (by rfl)) (by rfl)) (by rfl)) (by rfl)) (by rfl))) (by rfl) (by first | exact .inl rfl | exact .inr rfl | assumption)) (@pss_mid _ _ _ _ _ (@ps_if _ _ _ _ _ _ _ _ (@PW.pt _ _ _ (@pw_and _ _ _ _ _ _ _ (@pt_cmpR _ _ _ _ _ _ _ _ (@op_neD _ _ hr) (pv 4) (@pe_lst _ _ _ _ pa_nil) (@nomark _ _ (by decide) (by decide))) (@pw_and1 _ _ _ _ (@pt_cmpR _ _ _ _ _ _ _ _ op_eq (@pe_cal _ _ _ _ _ _ _ _ _ _ C_l_take hr rfl (@pa_cons _ _ _ _ _ (pv 0) (@pa_cons _ _ _ _ _ pe_int pa_nil (by rfl)) (by rfl)) (by decide) (by rfl) (by rfl)) pe_int (@nomark _ _ (by decide) (by decide)))))) (@pss_cons _ _ _ _ _ (@ps_asg _ _ _ _ _ _ (@pe_ix _ _ _ _ _ _ _ ix_M (pv 4) (@pe_cal _ _ _ _ _ _ _ _ _ _ C_l_take hr rfl (@pa_cons _ _ _ _ _ (pv 0) (@pa_cons _ _ _ _ _ (@pe_callB _ _ _ _ _ _ _ _ _ call_lenM rfl B.len bo_len (@pa_cons _ _ _ _ _ (pv 4) pa_nil (by rfl)) (by decide) (by decide) (by rfl) (by rfl)) pa_nil (by rfl)) (by rfl)) (by decide) (by rfl) (by rfl)) (fun _ _ => rfl)) (@pg_tupM _ _ _ _ _ 5 rfl (@pgs_cons _ _ _ _ _ (@pg_name _ _ (10) _ sc_l_bent.nd rfl (by first | exact Or.inl rfl | exact Or.inr rfl) (by first | exact .inl rfl | exact .inr rfl | assumption)) (@pgs_cons _ _ _ _ _ (@pg_name _ _ (11) _ sc_l_bent.nd rfl (by first | exact Or.inl rfl | exact Or.inr rfl) (by first | exact .inl rfl | exact .inr rfl | assumption)) (@pgs_cons _ _ _ _ _ (@pg_name _ _ (12) _ sc_l_bent.nd rfl (by first | exact Or.inl rfl | exact Or.inr rfl) (by first | exact .inl rfl | exact .inr rfl | assumption)) (@pgs_cons _ _ _ _ _ (@pg_name _ _ (13) _ sc_l_bent.nd rfl (by first | exact Or.inl rfl | exact Or.inr rfl) (by first | exact .inl rfl | exact .inr rfl | assumption)) (@pgs_cons _ _ _ _ _ (@pg_name _ _ (14) _ sc_l_bent.nd rfl (by first | exact Or.inl rfl | exact Or.inr rfl) (by first | exact .inl rfl | exact .inr rfl | assumption)) pgs_nil (by rfl)) (by rfl)) (by rfl)) (by rfl)) (by rfl)) (by rfl) (by rfl)) (by rfl) (by rfl) (by rfl)) (@pss_one _ _ _ (@ps_set _ _ (9) _ _ _ _ sc_l_bent.nd rfl (by first | exact Or.inl rfl | exact Or.inr rfl) (@pe_tup _ _ _ _ _ (@pa_cons _ _ _ _ _ (pv 10) (@pa_cons _ _ _ _ _ (pv 13) (@pa_cons _ _ _ _ _ (pv 14) (@pa_cons _ _ _ _ _ (pv 11) (@pa_cons _ _ _ _ _ (pv 12) pa_nil (by rfl)) (by rfl)) (by rfl)) (by rfl)) (by rfl))) (by rfl) (by first | exact .inl rfl | exact .inr rfl | assumption)))) pss_nil) (@pss_cons _ _ _ _ _ (@ps_set _ _ (15) _ _ _ _ sc_l_bent.nd rfl (by first | exact Or.inl rfl | exact Or.inr rfl) (@pe_lst _ _ _ _ (@pa_cons _ _ _ _ _ (pv 9) (@pa_cons _ _ _ _ _ (@pe_tup _ _ _ _ _ (@pa_cons _ _ _ _ _ pe_str (@pa_cons _ _ _ _ _ (pv 7) (@pa_cons _ _ _ _ _ (pv 8) (@pa_cons _ _ _ _ _ (pv 7) (@pa_cons _ _ _ _ _ (pv 8) pa_nil (by rfl)) (by rfl)) (by rfl)) (by rfl)) (by rfl))) (@pa_cons _ _ _ _ _ (@pe_tup _ _ _ _ _ (@pa_cons _ _ _ _ _ pe_str (@pa_cons _ _ _ _ _ (pv 7) (@pa_cons _ _ _ _ _ (@pe_op _ _ _ _ _ _ _ _ op_add (pv 8) pe_int) (@pa_cons _ _ _ _ _ (pv 7) (@pa_cons _ _ _ _ _ (pv 8) pa_nil (by rfl)) (by rfl)) (by rfl)) (by rfl)) (by rfl))) (@pa_cons _ _ _ _ _ (@pe_cal _ _ _ _ _ _ _ _ _ _ C_l_deed hr rfl (@pa_cons _ _ _ _ _ (pv 0) (@pa_cons _ _ _ _ _ (pv 2) (@pa_cons _ _ _ _ _ (@pe_op _ _ _ _ _ _ _ _ op_sub (pv 6) pe_int) pa_nil (by rfl)) (by rfl)) (by rfl)) (by decide) (by rfl) (by rfl)) pa_nil (by rfl)) (by rfl)) (by rfl)) (by rfl))) (by rfl) (by first | exact .inl rfl | exact .inr rfl | assumption)) (@pss_mid _ _ _ _ _ (@ps_set _ _ (16) _ _ _ _ sc_l_bent.nd rfl (by first | exact Or.inl rfl | exact Or.inr rfl) (@pe_ix _ _ _ _ _ _ _ ix_M (pv 15) (@pe_cal _ _ _ _ _ _ _ _ _ _ C_l_take hr rfl (@pa_cons _ _ _ _ _ (pv 0) (@pa_cons _ _ _ _ _ pe_int pa_nil (by rfl)) (by rfl)) (by decide) (by rfl) (by rfl)) (fun _ _ => rfl)) (by rfl) (by first | exact .inl rfl | exact .inr rfl | assumption)) (@pss_cons _ _ _ _ _ (@ps_set _ _ (17) _ _ _ _ sc_l_bent.nd rfl (by first | exact Or.inl rfl | exact Or.inr rfl) (@pe_cal _ _ _ _ _ _ _ _ _ _ C_l_take hr rfl (@pa_cons _ _ _ _ _ (pv 0) (@pa_cons _ _ _ _ _ pe_int pa_nil (by rfl)) (by rfl)) (by decide) (by rfl) (by rfl)) (by rfl) (by first | exact .inl rfl | exact .inr rfl | assumption)) (@pss_cons _ _ _ _ _ (@ps_if _ _ _ _ _ _ _ _ (@pt_cmpR _ _ _ _ _ _ _ _ op_eq (pv 17) pe_int (@nomark _ _ (by decide) (by decide))) (@pss_one _ _ _ (@ps_ret _ _ _ _ (@pe_tup _ _ _ _ _ (@pa_cons _ _ _ _ _ (pv 3) (@pa_cons _ _ _ _ _ (pv 4) (@pa_cons _ _ _ _ _ (@pe_comp0 _ _ _ _ _ _ _ _ (["_law_goal", "_law_many"]) (1) ([6]) _ _ _ rfl (@pi_list _ _ _ _ (pv 5)) (fun nd C s H fp => ⟨(@pg_name _ _ (0) _ nd rfl (by first | exact Or.inl rfl | exact Or.inr rfl) (by first | exact .inl rfl | exact .inr rfl | assumption)), (@pn_one _ _ _ (@pt_cmpR _ _ _ _ _ _ _ _ op_ne (@pe_ix _ _ _ _ _ _ _ ix_U (pv 0) pe_int (fun _ _ => rfl)) (@pe_op _ _ _ _ _ _ _ _ op_sub (pv 1) pe_int) (@nomark _ _ (by decide) (by decide)))), (pv 0)⟩) (by decide +kernel) (by first | rfl | decide +kernel) (by first | rfl | decide +kernel) rfl (fun _ => rfl)) pa_nil (by rfl)) (by rfl)) (by rfl))))) pss_nil) (@pss_cons _ _ _ _ _ (@ps_if _ _ _ _ _ _ _ _ (@pt_cmpR _ _ _ _ _ _ _ _ op_eq (pv 17) pe_int (@nomark _ _ (by decide) (by decide))) (@pss_one _ _ _ (@ps_ret _ _ _ _ (@pe_tup _ _ _ _ _ (@pa_cons _ _ _ _ _ (pv 3) (@pa_cons _ _ _ _ _ (@pe_op _ _ _ _ _ _ _ _ op_cat (pv 4) (@pe_lst _ _ _ _ (@pa_cons _ _ _ _ _ (pv 16) pa_nil (by rfl)))) (@pa_cons _ _ _ _ _ (pv 5) pa_nil (by rfl)) (by rfl)) (by rfl))))) pss_nil) (@pss_one _ _ _ (@ps_ret _ _ _ _ (@pe_tup _ _ _ _ _ (@pa_cons _ _ _ _ _ (pv 3) (@pa_cons _ _ _ _ _ (@pe_op _ _ _ _ _ _ _ _ op_cat (pv 4) (@pe_lst _ _ _ _ (@pa_cons _ _ _ _ _ (pv 16) pa_nil (by rfl)))) (@pa_cons _ _ _ _ _ (@pe_op _ _ _ _ _ _ _ _ op_cat (pv 5) (@pe_lst _ _ _ _ (@pa_cons _ _ _ _ _ (@pe_tup _ _ _ _ _ (@pa_cons _ _ _ _ _ (pv 6) (@pa_cons _ _ _ _ _ pe_int (@pa_cons _ _ _ _ _ pe_int pa_nil (by rfl)) (by rfl)) (by rfl))) pa_nil (by rfl)))) pa_nil (by rfl)) (by rfl)) (by rfl))))))))))))))))), ?_⟩
  rw [show start ["_law_pen_here", "_law_web", "_law_things_by", "_law_ins", "_law_deeds", "_law_goals", "_law_many", "_law_x", "_law_far", "_law_again", "_law_word", "_law_a", "_law_s", "_law_b", "_law_t", "_law_more", "_law_deed_here", "_law_way"] [.ref p, .ref w0, .ref tb] = [some (.ref p), some (.ref w0), some (.ref tb), none, none, none, none, none, none, none, none, none, none, none, none, none, none, none] from rfl]
  have h1 := W.tup
  have i1 := F.ok.i1
  have i12 := F.ok.i2
  have lr := rowsW_len ins ds
  have tl : ts.length = ins + ds.length := by rw [hrs.len, lr]
  obtain ⟨pl, hpl⟩ := P0.lst
  have ul := W.hds.len
  (iterate 5 ((try (walk_at "WP")); (try (simp only [h1, Option.some.injEq, HO.tup.injEq, HO.lst.injEq, HO.dK.injEq, exists_eq_left', exists_eq_left])))); (try (walk_at "WP"))
  (iterate 5 ((try (walk_at "WP")); (try (simp only [htb, Option.some.injEq, HO.tup.injEq, HO.lst.injEq, HO.dK.injEq, exists_eq_left', exists_eq_left])))); (try (walk_at "WP"))
  (iterate 5 ((try (walk_at "WP")); (try (simp only [htb, Option.some.injEq, HO.tup.injEq, HO.lst.injEq, HO.dK.injEq, exists_eq_left', exists_eq_left])))); (try (walk_at "WP"))
  refine ltake_ P0 S0 h63 (by omega) (by omega) (by omega) fun x0 H1 x00 x01 P1 S1 C1 => ?_
  obtain ⟨x, rfl⟩ := Int.eq_ofNat_of_zero_le x00
  have xl : x < ins + ds.length := by omega
  try walk_at "WP"
  try walk_at "WP"
  refine ltake_ P1 S1 h63 (by omega) (by decide) (by decide) fun far H2 f0 f1 P2 S2 C2 => ?_
  try walk_at "WP"
  try walk_at "WP"
  intro ag nag
  have agp := P2.ne nag
  have C02 := C1.trans C2
  refine abs_ nag fun H3 s3 h3 => ?_
  have P3 := P2.same s3
  have S3 := S2.same s3
  have C03 := C02.trans s3.chg
  try walk_at "WP"
  have val : ∀ d : Wd, d.a = x → d.b = x → (d.w = "sum" ∨ d.w = "less") → (0 ≤ d.s ∧ d.s ≤ 5) → (0 ≤ d.t ∧ d.t ≤ 5) → FWeb ins (ds ++ [d]) gs := fun d ha hb hw hs ht => F.more hw (by omega) (by omega) (Sh.up28 _ (by omega) (by omega)) (Sh.up28 _ (by omega) (by omega)) (by omega)
  rw [tl]
  refine mid_of (fun σ H5 => ∃ (ag : Addr) (d : Wd) (o10 o11 o12 o13 o14 : Option V), σ = [some (.ref p), some (.ref w0), some (.ref tb), some (.int ins), some (.ref dl), some (.ref gl), some (.int ((ins + ds.length : Nat) : Int)), some (.int (x : Int)), some (.int far), some (.ref ag), o10, o11, o12, o13, o14, none, none, none] ∧ H5 ag = some (.tup (wTup d)) ∧ ag ≠ p ∧ FWeb ins (ds ++ [d]) gs ∧ LPen H5 p a (c + 100) ∧ Scr K H5 a ns ∧ Chg p H H5) (fun N hN => ?_) ?_
  · try walk_at "WP"
    have no : ∀ G, LPen G p a (c + 100) → Scr K G a ns → Chg p H3 G → N [some (.ref p), some (.ref w0), some (.ref tb), some (.int ins), some (.ref dl), some (.ref gl), some (.int ((ins + ds.length : Nat) : Int)), some (.int (x : Int)), some (.int far), some (.ref ag), none, none, none, none, none, none, none, none] G := fun G PG SG CG => hN _ _ ⟨ag, ⟨"sum", x, far, x, far⟩, _, _, _, _, _, rfl, CG _ _ agp h3, agp, val ⟨"sum", x, far, x, far⟩ rfl rfl (.inl rfl) ⟨f0, by show far ≤ 5; omega⟩ ⟨f0, by show far ≤ 5; omega⟩, PG, SG, C03.trans CG⟩
    intro e4 he4
    refine abs_ he4 fun H4 s4 h4 => ?_
    have W4 := (W.chg hpl dp gp C03).same s4
    have P4 := P3.same s4
    have S4 := S3.same s4
    obtain ⟨pl4, hpl4⟩ := P4.lst
    refine ne_nilW W4.dll W4.hds h4 ⟨_, rfl, ?_⟩
    by_cases en : ds = []
    · rw [decide_eq_true en, if_neg (by decide)]
      exact no _ (P4.mono (by omega)) S4 s4.chg
    · rw [decide_eq_false en, if_pos (show (!false) = true from rfl)]
      have dpos : 0 < ds.length := List.length_pos_iff.mpr en
      refine ltake_ P4 S4 h63 (by omega) (by decide) (by decide) fun r5 H5 r50 r51 P5 S5 C5 => ?_
      try walk_at "WP"
      refine ite2 (fun z => ?_) (fun z => no _ (P5.mono (by omega)) S5 (s4.chg.trans C5))
      have W5 := W4.chg hpl4 dp gp C5
      refine ⟨us, W5.dll, ltake_ P5 S5 h63 (by omega) (by omega) (by omega) fun j0 H6 j00 j01 P6 S6 C6 => ?_⟩
      obtain ⟨pl5, hpl5⟩ := P5.lst
      have W6 := W5.chg hpl5 dp gp C6
      obtain ⟨j, rfl⟩ := Int.eq_ofNat_of_zero_le j00
      have jl : j < ds.length := by omega
      have ed := List.getElem?_eq_getElem jl
      generalize ds[j] = d at ed
      obtain ⟨t, t1, t2⟩ := W6.hds.at_ j d ed
      have hd6 := W6.dll
      unfold wTup at t2
      (iterate 5 ((try (walk_at "WP")); (try (simp only [hd6, Option.some.injEq, HO.tup.injEq, HO.lst.injEq, HO.dK.injEq, exists_eq_left', exists_eq_left])))); (try (walk_at "WP"))
      refine ⟨_, atI_nat t1, ?_⟩
      (iterate 5 ((try (walk_at "WP")); (try (simp only [t2, Option.some.injEq, HO.tup.injEq, HO.lst.injEq, HO.dK.injEq, exists_eq_left', exists_eq_left])))); (try (walk_at "WP"))
      intro t3 n3
      refine abs_ n3 fun H7 s7 h7 => ?_
      obtain ⟨da, db, sa, sb⟩ := F.sh j d ed
      have dw := (F.ok.dk j d ed).2.2
      exact hN _ _ ⟨t3, ⟨d.w, d.b, d.t, d.a, d.s⟩, _, _, _, _, _, rfl, h7, P6.ne n3, F.more dw (by show d.b < _; omega) (by show d.a < _; omega) sb sa (by omega), (P6.same s7).mono (by omega), S6.same s7, (((C03.trans s4.chg).trans C5).trans C6).trans s7.chg⟩
  · rintro σ H5 ⟨ag, d, o10, o11, o12, o13, o14, rfl, h5, agp, FA, P5, S5, C5⟩
    try walk_at "WP"
    intro t1 n1
    have t1p := P5.ne n1
    refine abs_ n1 fun H6 s6 h6 => ?_
    have P6 := P5.same s6
    intro t2 n2
    have t2p := P6.ne n2
    refine abs_ n2 fun H7 s7 h7 => ?_
    have P7 := P6.same s7
    have S7 := (S5.same s6).same s7
    have C7 : Chg p H H7 := (C5.trans s6.chg).trans s7.chg
    refine ⟨p, a, tb, ns, _, ts, [p], rowsW ins ds, ins + ds.length - 1, ?_, P7, S7, h63, by omega, C7 _ _ tp htb, hrs.chg (by simp) C7, by simp, tp, by omega, by omega, fun r hr => (F.rb r hr).1, fun t3 d3 H8 n3 h8 dw da db dl1 sa sb P8 S8 C8 => ?_⟩
    · rw [show (((ins + ds.length : Nat) : Int) - 1) = ((ins + ds.length - 1 : Nat) : Int) by omega]
    have t3p := P7.ne n3
    have k0 := C8 _ _ agp (s7 _ _ (s6 _ _ h5))
    have k1 := C8 _ _ t1p (s7 _ _ h6)
    have k2 := C8 _ _ t2p h7
    have C8' := C7.trans C8
    intro ml nml
    have mlp := P8.ne nml
    refine abs_ nml fun H9 s9 h9 => ?_
    have F3 : FWeb ins (ds ++ [d3]) gs := F.more dw (by omega) (by omega) sa sb (by omega)
    have C9 := C8'.trans s9.chg
    refine mid_of (fun σ G => ∃ (dh : Addr) (d' : Wd), σ = [some (.ref p), some (.ref w0), some (.ref tb), some (.int ins), some (.ref dl), some (.ref gl), some (.int ((ins + ds.length : Nat) : Int)), some (.int (x : Int)), some (.int far), some (.ref ag), o10, o11, o12, o13, o14, some (.ref ml), some (.ref dh), none] ∧ G dh = some (.tup (wTup d')) ∧ dh ≠ p ∧ FWeb ins (ds ++ [d']) gs ∧ LPen G p a (c + 3000) ∧ Scr K G a ns ∧ Chg p H G) (fun N hN => ?_) ?_
    · try walk_at "WP"
      refine ltake_ (P8.same s9) (S8.same s9) h63 (by omega) (by decide) (by decide) fun r HA r0 r1 PA SA CA => ?_
      have hA := CA _ _ mlp h9
      have PA' := PA.mono (d := c + 3000) (by omega)
      (iterate 5 ((try (walk_at "WP")); (try (simp only [hA, Option.some.injEq, HO.tup.injEq, HO.lst.injEq, HO.dK.injEq, exists_eq_left', exists_eq_left])))); (try (walk_at "WP"))
      have four : r = 0 ∨ r = 1 ∨ r = 2 ∨ r = 3 := by omega
      rcases four with z | z | z | z <;> subst z
      · exact ⟨_, rfl, hN _ _ ⟨ag, d, rfl, CA _ _ agp (s9 _ _ k0), agp, FA, PA', SA, C9.trans CA⟩⟩
      · exact ⟨_, rfl, hN _ _ ⟨t1, ⟨"less", x, far, x, far⟩, rfl, CA _ _ t1p (s9 _ _ k1), t1p, val ⟨"less", x, far, x, far⟩ rfl rfl (.inr rfl) ⟨f0, by show far ≤ 5; omega⟩ ⟨f0, by show far ≤ 5; omega⟩, PA', SA, C9.trans CA⟩⟩
      · exact ⟨_, rfl, hN _ _ ⟨t2, ⟨"less", x, far + 1, x, far⟩, rfl, CA _ _ t2p (s9 _ _ k2), t2p, val ⟨"less", x, far + 1, x, far⟩ rfl rfl (.inr rfl) ⟨by show 0 ≤ far + 1; omega, by show far + 1 ≤ 5; omega⟩ ⟨f0, by show far ≤ 5; omega⟩, PA', SA, C9.trans CA⟩⟩
      · exact ⟨_, rfl, hN _ _ ⟨t3, d3, rfl, CA _ _ t3p (s9 _ _ h8), t3p, F3, PA', SA, C9.trans CA⟩⟩
    · rintro σ G ⟨dh, d', rfl, hG, dhp, FD, PG, SG, CG⟩
      try walk_at "WP"
      refine ltake_ PG SG h63 (by omega) (by decide) (by decide) fun wy GA w0' w1' PA SA CA => ?_
      have WA := W.chg hpl dp gp (CG.trans CA)
      have hdA := CA _ _ dhp hG
      have CH := CG.trans CA
      try walk_at "WP"
      have gl' := WA.hgs.len
      refine ite2 (fun z => ?_) (fun z => ?_)
      · refine ⟨⟨_, SqL.of WA.gll⟩, ?_⟩
        refine comp_flt (f := gTp) (fun g => !decide ((g.th : Int) = ((ins + ds.length : Nat) : Int) - 1)) WA.gll WA.hgs (by omega) (fun t g H' R hg ht s' hR => ?_) (fun acc ys HB nacc sB hB hy => ?_)
        · have ht' := s' _ _ ht
          unfold gTp at ht'
          rw [show capV [6] _ = [some (V.int ((ins + ds.length : Nat) : Int))] from rfl]
          (iterate 5 ((try (walk_at "WP")); (try (simp only [ht', Option.some.injEq, HO.tup.injEq, HO.lst.injEq, HO.dK.injEq, exists_eq_left', exists_eq_left])))); (try (walk_at "WP"))
          exact hR
        · intro wn nwn
          have PB := PA.same sB
          refine abs_ nwn fun HC sC hC => ?_
          have sAC := sB.trans sC
          have WC := WA.same sAC
          refine q wn dl acc us ds ys _ HC ⟨hC, WC.dll, WC.hds, sC _ _ hB, hy.same sAC⟩ (F.goals (Nat.le_trans (List.length_filter_le _ _) (by omega)) fun g hg => ?_) dp (PA.ne nacc) ((PB.same sC).mono (by omega)) (SA.same sAC) (CH.trans sAC.chg)
          have hm := (List.mem_filter.mp hg).1
          exact ⟨F.ok.gk g hm, F.go g hm⟩
      · have dlb : us.length + (0 + 1) ≤ sizeLine := le_size (by omega)
        refine ite2 (fun z => ?_) (fun z => ?_)
        · intro l1 n1
          refine abs_ n1 fun HB sB hB => ?_
          refine ⟨us, sB _ _ WA.dll, dlb, fun l2 n2 => ?_⟩
          have l2p := (PA.same sB).ne n2
          refine abs_ n2 fun HC sC hC => ?_
          intro wn nwn
          refine abs_ nwn fun HD sD hD => ?_
          have sAD := (sB.trans sC).trans sD
          have WD := WA.same sAD
          exact q wn l2 gl _ (ds ++ [d']) os gs HD ⟨hD, sD _ _ hC, WD.hds.snoc (sAD _ _ hdA), WD.gll, WD.hgs⟩ FD l2p gp ((PA.same sAD).mono (by omega)) (SA.same sAD) (CH.trans sAD.chg)
        · intro l1 n1
          refine abs_ n1 fun HB sB hB => ?_
          refine ⟨us, sB _ _ WA.dll, dlb, fun l2 n2 => ?_⟩
          have l2p := (PA.same sB).ne n2
          refine abs_ n2 fun HC sC hC => ?_
          intro tg ntg
          refine abs_ ntg fun HD sD hD => ?_
          intro l3 n3
          refine abs_ n3 fun HE sE hE => ?_
          have sAE := ((sB.trans sC).trans sD).trans sE
          refine ⟨os, sAE _ _ WA.gll, le_size (by omega), fun l4 n4 => ?_⟩
          have l4p := (PA.same sAE).ne n4
          refine abs_ n4 fun HF sF hF => ?_
          intro wn nwn
          refine abs_ nwn fun HG sG hG' => ?_
          have sAG := (sAE.trans sF).trans sG
          have WG := WA.same sAG
          have sEG := sF.trans sG
          have sDG := sE.trans sEG
          have hT : HG tg = some (.tup (gTp ⟨ins + ds.length, 0, 1⟩)) := sDG _ _ hD
          refine q wn l2 l4 _ (ds ++ [d']) _ (gs ++ [⟨ins + ds.length, 0, 1⟩]) HG ⟨hG', (sD.trans sDG) _ _ hC, WG.hds.snoc (sAG _ _ hdA), sG _ _ hF, WG.hgs.snoc hT⟩ (FD.goals (by rw [List.length_append]; show gs.length + 1 ≤ 12; omega) fun g hg => ?_) l2p l4p ((PA.same sAG).mono (by omega)) (SA.same sAG) (CH.trans sAG.chg)
          rcases List.mem_append.mp hg with y | y
          · exact ⟨FD.ok.gk g y, FD.go g y⟩
          · rw [List.mem_singleton.mp y]
            exact ⟨by show ins + ds.length < ins + (ds ++ [d']).length; rw [List.length_append]; show _ < ins + (ds.length + 1); omega, .inr ⟨.inl rfl, Sh.zero _⟩⟩
end

section
variable {P : Program} {w : World} {K : PySem.W.Frag} {mg : Str → Option Value} {base : Heap}
theorem ok_any28 (T : Txt K mg) : Cal P w K mg base 4 "_law_any" ["_law_pen_here"] (spAny28 K) := by
  have B := T.bl
  have C_l_take := (ok_ltake (P := P) (w := w) (base := base) T).mono (k := 3) (by decide)
  have C_l_shift := (ok_shiftX (P := P) (w := w) (base := base) T).mono (k := 3) (by decide)
  have C_l_come := (ok_come28 (P := P) (w := w) (base := base) T).mono (k := 3) (by decide)
  have C_l_deed := ok_deed28 (P := P) (w := w) (base := base) T
  refine mkCal T.t_l_any sc_l_any (fun vs H Q E h => ?_) (fun f cdv A outer s H vs Q E hr h => ?_)
  · obtain ⟨_, _, _, _, rfl, _⟩ := h
    rfl
  obtain ⟨p, a, ns, c, rfl, hP0, hS0, h63, hc, q0⟩ := h
  refine ⟨_, ((@pss_cons _ _ _ _ _ (@ps_set _ _ (1) _ _ _ _ sc_l_any.nd rfl (by first | exact Or.inl rfl | exact Or.inr rfl) (@pe_ix _ _ _ _ _ _ _ ix_M (@pe_lst _ _ _ _ (@pa_cons _ _ _ _ _ pe_int (@pa_cons _ _ _ _ _ pe_int (@pa_cons _ _ _ _ _ (@pe_op _ _ _ _ _ _ _ _ op_add pe_int (@pe_cal _ _ _ _ _ _ _ _ _ _ C_l_take hr rfl (@pa_cons _ _ _ _ _ (pv 0) (@pa_cons _ _ _ _ _ pe_int pa_nil (by rfl)) (by rfl)) (by decide) (by rfl) (by rfl))) pa_nil (by rfl)) (by rfl)) (by rfl))) (@pe_cal _ _ _ _ _ _ _ _ _ _ C_l_take hr rfl (@pa_cons _ _ _ _ _ (pv 0) (@pa_cons _ _ _ _ _ pe_int pa_nil (by rfl)) (by rfl)) (by decide) (by rfl) (by rfl)) (fun _ _ => rfl)) (by rfl) (by first | exact .inl rfl | exact .inr rfl | assumption)) (@pss_mid _ _ _ _ _ (@ps_setCompC _ _ _ _ (2) _ _ _ _ _ _ _ (["_law_i", "_law_ins"]) (1) ([1]) _ _ _ rfl (@pi_range1 _ _ _ _ _ _ rfl B.range (@pa_cons _ _ _ _ _ (pv 1) pa_nil (by rfl)) (by rfl)) (fun nd C s H fp => ⟨(@pg_name _ _ (0) _ nd rfl (by first | exact Or.inl rfl | exact Or.inr rfl) (by first | exact .inl rfl | exact .inr rfl | assumption)), pn_nil, (@pe_comp0 _ _ _ _ _ _ _ _ (["_law_k", "_law_i"]) (1) ([0]) _ _ _ rfl (@pi_range1 _ _ _ _ _ _ rfl B.range (@pa_cons _ _ _ _ _ (pv 1) pa_nil (by rfl)) (by rfl)) (fun nd C s H fp => ⟨(@pg_name _ _ (0) _ nd rfl (by first | exact Or.inl rfl | exact Or.inr rfl) (by first | exact .inl rfl | exact .inr rfl | assumption)), pn_nil, (@pe_callTy _ _ _ _ _ _ _ _ _ call_int1 rfl B.int bo_int (@pa_cons _ _ _ _ _ (@pe_cmpR _ _ _ _ _ _ _ _ op_eq (pv 0) (pv 1) (@nomark _ _ (by decide) (by decide))) pa_nil (by rfl)) (by decide) (by decide) (by rfl) (by rfl))⟩) (by decide +kernel) (by first | rfl | decide +kernel) (by first | rfl | decide +kernel) rfl (fun _ => rfl))⟩) (by decide +kernel) (by first | rfl | decide +kernel) (by first | rfl | decide +kernel) rfl (fun _ => rfl) sc_l_any.nd rfl (by first | exact Or.inl rfl | exact Or.inr rfl) (by first | exact .inl rfl | exact .inr rfl) rfl) (@pss_cons _ _ _ _ _ (@ps_set _ _ (3) _ _ _ _ sc_l_any.nd rfl (by first | exact Or.inl rfl | exact Or.inr rfl) (@pe_lst _ _ _ _ pa_nil) (by rfl) (by first | exact .inl rfl | exact .inr rfl | assumption)) (@pss_mid _ _ _ _ _ (@ps_for _ _ _ _ _ _ _ _ PassesOwn.never rfl (@pi_range1 _ _ _ _ _ _ rfl B.range (@pa_cons _ _ _ _ _ (@pe_cal _ _ _ _ _ _ _ _ _ _ C_l_take hr rfl (@pa_cons _ _ _ _ _ (pv 0) (@pa_cons _ _ _ _ _ pe_int pa_nil (by rfl)) (by rfl)) (by decide) (by rfl) (by rfl)) pa_nil (by rfl)) (by rfl)) (@pg_name _ _ (4) _ sc_l_any.nd rfl (by first | exact Or.inl rfl | exact Or.inr rfl) (by first | exact .inl rfl | exact .inr rfl | assumption)) (@pss_cons _ _ _ _ _ (@ps_set _ _ (5) _ _ _ _ sc_l_any.nd rfl (by first | exact Or.inl rfl | exact Or.inr rfl) (@pe_cal _ _ _ _ _ _ _ _ _ _ C_l_deed hr rfl (@pa_cons _ _ _ _ _ (pv 0) (@pa_cons _ _ _ _ _ (pv 2) (@pa_cons _ _ _ _ _ (@pe_cal _ _ _ _ _ _ _ _ _ _ C_l_take hr rfl (@pa_cons _ _ _ _ _ (pv 0) (@pa_cons _ _ _ _ _ (@pe_callB _ _ _ _ _ _ _ _ _ call_lenM rfl B.len bo_len (@pa_cons _ _ _ _ _ (pv 2) pa_nil (by rfl)) (by decide) (by decide) (by rfl) (by rfl)) pa_nil (by rfl)) (by rfl)) (by decide) (by rfl) (by rfl)) pa_nil (by rfl)) (by rfl)) (by rfl)) (by decide) (by rfl) (by rfl)) (by rfl) (by first | exact .inl rfl | exact .inr rfl | assumption)) (@pss_cons _ _ _ _ _ (@ps_expr _ _ _ _ (@pe_bm _ _ _ _ _ _ _ _ _ _ _ _ PySem.F.plainAttrs_list PySem.F.slot_list_append PySem.F.type_list_append mt_append (pv 3) (@pa_cons _ _ _ _ _ (pv 5) pa_nil (by rfl)) (by rfl) (by rfl) (by rfl) (by rfl) (by rfl)) (by rfl)) (@pss_one _ _ _ (@ps_expr _ _ _ _ (@pe_bm _ _ _ _ _ _ _ _ _ _ _ _ PySem.F.plainAttrs_list PySem.F.slot_list_append PySem.F.type_list_append mt_append (pv 2) (@pa_cons _ _ _ _ _ (@pe_cal _ _ _ _ _ _ _ _ _ _ C_l_come hr rfl (@pa_cons _ _ _ _ _ (pv 2) (@pa_cons _ _ _ _ _ (pv 5) pa_nil (by rfl)) (by rfl)) (by decide) (by rfl) (by rfl)) pa_nil (by rfl)) (by rfl) (by rfl) (by rfl) (by rfl) (by rfl)) (by rfl))))) (by intro _ ; rfl)) (@pss_cons _ _ _ _ _ (@ps_set _ _ (6) _ _ _ _ sc_l_any.nd rfl (by first | exact Or.inl rfl | exact Or.inr rfl) (@pe_lst _ _ _ _ pa_nil) (by rfl) (by first | exact .inl rfl | exact .inr rfl | assumption)) (@pss_cons _ _ _ _ _ (@ps_for _ _ _ _ _ _ _ _ PassesOwn.never rfl (@pi_range1 _ _ _ _ _ _ rfl B.range (@pa_cons _ _ _ _ _ (@pe_cal _ _ _ _ _ _ _ _ _ _ C_l_take hr rfl (@pa_cons _ _ _ _ _ (pv 0) (@pa_cons _ _ _ _ _ pe_int pa_nil (by rfl)) (by rfl)) (by decide) (by rfl) (by rfl)) pa_nil (by rfl)) (by rfl)) (@pg_name _ _ (4) _ sc_l_any.nd rfl (by first | exact Or.inl rfl | exact Or.inr rfl) (by first | exact .inl rfl | exact .inr rfl | assumption)) (@pss_cons _ _ _ _ _ (@ps_set _ _ (7) _ _ _ _ sc_l_any.nd rfl (by first | exact Or.inl rfl | exact Or.inr rfl) (@pe_cal _ _ _ _ _ _ _ _ _ _ C_l_take hr rfl (@pa_cons _ _ _ _ _ (pv 0) (@pa_cons _ _ _ _ _ (@pe_callB _ _ _ _ _ _ _ _ _ call_lenM rfl B.len bo_len (@pa_cons _ _ _ _ _ (pv 2) pa_nil (by rfl)) (by decide) (by decide) (by rfl) (by rfl)) pa_nil (by rfl)) (by rfl)) (by decide) (by rfl) (by rfl)) (by rfl) (by first | exact .inl rfl | exact .inr rfl | assumption)) (@pss_one _ _ _ (@ps_expr _ _ _ _ (@pe_bm _ _ _ _ _ _ _ _ _ _ _ _ PySem.F.plainAttrs_list PySem.F.slot_list_append PySem.F.type_list_append mt_append (pv 6) (@pa_cons _ _ _ _ _ (@pe_tup _ _ _ _ _ (@pa_cons _ _ _ _ _ (pv 7) (@pa_cons _ _ _ _ _ (@pe_cal _ _ _ _ _ _ _ _ _ _ C_l_shift hr rfl (@pa_cons _ _ _ _ _ (pv 0) (@pa_cons _ _ _ _ _ (@pe_ix _ _ _ _ _ _ _ ix_M (pv 2) (pv 7) (fun _ _ => rfl)) pa_nil (by rfl)) (by rfl)) (by decide) (by rfl) (by rfl)) (@pa_cons _ _ _ _ _ pe_int pa_nil (by rfl)) (by rfl)) (by rfl))) pa_nil (by rfl)) (by rfl) (by rfl) (by rfl) (by rfl) (by rfl)) (by rfl)))) (by intro _ ; rfl)) (@pss_one _ _ _ (@ps_ret _ _ _ _ (@pe_tup _ _ _ _ _ (@pa_cons _ _ _ _ _ (pv 1) (@pa_cons _ _ _ _ _ (pv 3) (@pa_cons _ _ _ _ _ (pv 6) pa_nil (by rfl)) (by rfl)) (by rfl)))))))))))), ?_⟩
  rw [show start ["_law_pen_here", "_law_ins", "_law_things_by", "_law_deeds", "_law_k", "_law_deed_here", "_law_goals", "_law_thing"] [.ref p] = [some (.ref p), none, none, none, none, none, none, none] from rfl]
  refine seq_in fun R_ hR_ => ?_
  try walk_at "WP"
  refine ltake_ hP0 hS0 h63 (by omega) (by decide) (by decide) fun q1 Ha q10 q11 Pa Sa Ca => ?_
  (try (walk_at "WP")); (try (refine seq_out hR_ ?_)); (try (refine seq_in fun R_ hR_ => ?_)); (try (walk_at "WP"))
  intro eI heI
  have sI := same_new heI (.lst [V.int 1, V.int 2, V.int (1 + q1)])
  refine ltake_ (Pa.same sI) (Sa.same sI) h63 (by omega) (by decide) (by decide) fun q2 Hb q20 q21 hP hS Cb => ?_
  have hHb := Cb eI _ (Pa.ne heI) upd_same
  (try (walk_at "WP")); (try (refine seq_out hR_ ?_)); (try (refine seq_in fun R_ hR_ => ?_)); (iterate 5 ((try (walk_at "WP")); (try (simp only [hHb, Option.some.injEq, HO.tup.injEq, HO.lst.injEq, HO.dK.injEq, exists_eq_left', exists_eq_left])))); (try (walk_at "WP"))
  have hIns : ∃ ins : Nat, atI [V.int 1, V.int 2, V.int (1 + q1)] q2 = some (.int (ins : Int)) ∧ 1 ≤ ins ∧ ins ≤ 12 := by
    have four : q2 = 0 ∨ q2 = 1 ∨ q2 = 2 := by omega
    rcases four with z | z | z <;> subst z
    · exact ⟨1, rfl, by omega, by omega⟩
    · exact ⟨2, rfl, by omega, by omega⟩
    · exact ⟨(1 + q1).toNat, by rw [Int.toNat_of_nonneg (by omega)]; rfl, by omega, by omega⟩
  obtain ⟨ins, hins, u0, u1⟩ := hIns
  refine ⟨_, hins, ?_⟩
  have Cab : Chg p H Hb := (Ca.trans sI.chg).trans Cb
  subst hR_
  refine mid_of (fun σ H3 => ∃ (tb : Addr) (vs : List V), σ = [some (.ref p), some (.int ins), some (.ref tb), none, none, none, none, none] ∧ Hb tb = none ∧ Same Hb H3 ∧ H3 tb = some (.lst vs) ∧ HRs H3 [tb, p] vs ((List.range ins).map (unitRow ins)) ∧ tb ≠ p) (fun N hN => ?_) ?_
  · try walk_at "WP"
    refine ⟨by omega, by omega, ?_⟩
    rw [Int.toNat_natCast]
    have hex : ∀ e ∈ [p], Hb e ≠ none := fun e he => by
      rw [List.mem_singleton.mp he]
      obtain ⟨xs, hx⟩ := hP.lst
      rw [hx]
      intro z
      cases z
    refine comp_rows (by omega) (unitRow ins) [p] hex (fun i Hb' R hi s' hR => ?_) (fun tb vs H3 hn s3 h3 hr3 => ?_)
    · rw [show capV [1] [some (V.ref p), some (V.int (ins : Int)), none, none, none, none, none, none] = [some (.int ins)] from rfl]
      try walk_at "WP"
      refine ⟨by omega, by omega, ?_⟩
      rw [Int.toNat_natCast]
      refine comp_R (f := unV i) (le_size (by omega)) (fun y H5 R5 hy s5 hR5 => ?_) (fun acc hacc => ?_)
      · obtain ⟨k, hk, rfl⟩ := List.mem_map.mp hy
        rw [show capV [0] [some (V.int (0 + (i : Int))), some (V.int (ins : Int))] = [some (V.int (0 + (i : Int)))] from rfl]
        try walk_at "WP"
        rw [show (0 : Int) + (i : Int) = i by omega]
        exact hR5
      · rw [unV_map]
        exact hR acc _ hacc (same_new hacc _) upd_same
    · exact hN _ _ ⟨tb, vs, rfl, hn, s3, h3, hr3, hP.ne hn⟩
  · rintro σ H3 ⟨tb, vs, rfl, ntb, ss3, htb, hrs, tbp⟩
    have C3 : Chg p Hb H3 := ss3.chg
    have P3 := hP.same ss3
    have S3 := hS.same ss3
    try walk_at "WP"
    intro dl hdl
    have sd := same_new hdl (.lst [])
    have dlp : dl ≠ p := P3.ne hdl
    have tbd : tb ≠ dl := ne_of_none htb hdl
    have I0 : FI Hb p ins tb dl 0 vs [] [] (upd H3 dl (.lst [])) := by
      refine ⟨⟨sd _ _ htb, (hrs.new hdl).same sd, by simp [rowsW], fun r hr => ?_, fun r hr => ?_, upd_same, hts_nil, rfl, fun j d h => by simp at h, C3.trans sd.chg, ntb, C3.new dlp hdl, tbp, dlp, tbd⟩, fun k d h => by simp at h⟩
      · obtain ⟨i, _, rfl⟩ := List.mem_map.mp hr
        refine ⟨by rw [unitRow_len]; exact u1, fun n hn => ?_⟩
        rcases unitRow_bound hn with z | z <;> subst z <;> decide
      · obtain ⟨i, _, rfl⟩ := List.mem_map.mp hr
        exact unitRow_len _ _
    have P4 := P3.same sd
    have S4 := S3.same sd
    generalize upd H3 dl (.lst []) = H4 at I0 P4 S4 ⊢
    refine mid_of (fun σ H5 => ∃ (k : Nat) (vs us : List V) (ds : List Wd) (o4 o5 : Option V), σ = [some (.ref p), some (.int ins), some (.ref tb), some (.ref dl), o4, o5, none, none] ∧ k ≤ 5 ∧ FI Hb p ins tb dl k vs us ds H5 ∧ LPen H5 p a (c + 50000) ∧ Scr K H5 a ns) (fun N hN => ?_) ?_
    · try walk_at "WP"
      refine ltake_ P4 S4 h63 (by omega) (by omega) (by omega) fun m H6 m0 m1 P6 S6 C6 => ?_
      try walk_at "WP"
      refine ⟨by omega, by omega, ?_⟩
      obtain ⟨n, rfl⟩ := Int.eq_ofNat_of_zero_le m0
      rw [Int.toNat_natCast]
      have I6 := I0.stepX P4 C6
      refine forR (fun k σ H7 => ∃ (vs us : List V) (ds : List Wd) (o4 o5 : Option V), σ = [some (.ref p), some (.int ins), some (.ref tb), some (.ref dl), o4, o5, none, none] ∧ FI Hb p ins tb dl k vs us ds H7 ∧ LPen H7 p a (c + 10 + 2000 * k) ∧ Scr K H7 a ns)
        ⟨vs, [], [], none, none, rfl, I6, P6.mono (by omega), S6⟩ ?_ ?_
      · rintro k σ H7 N2 hi ⟨vs, us, ds, o4, o5, rfl, I7, P7, S7⟩ hN2
        have hT7 := I7.wi.tbl
        have hvl : vs.length = ins + k := by rw [I7.wi.hrs.len, I7.wi.rl]
        have hrl : (rowsW ins ds).length = ins + k := I7.wi.rl
        refine seq_inG fun R_ hR_ => ?_
        (iterate 5 ((try (walk_at "WP")); (try (simp only [hT7, Option.some.injEq, HO.tup.injEq, HO.lst.injEq, HO.dK.injEq, exists_eq_left', exists_eq_left])))); (try (walk_at "WP"))
        refine ltake_ P7 S7 h63 (by omega) (by omega) (by omega) fun f0 H7b f00 f01 P7b S7b C7b => ?_
        have I7b := I7.stepX P7 C7b
        obtain ⟨fi, rfl⟩ := Int.eq_ofNat_of_zero_le f00
        have hT7b := I7b.wi.tbl
        try walk_at "WP"
        refine ⟨p, a, tb, ns, _, vs, [dl, tb, p], rowsW ins ds, fi, rfl, P7b, S7b, h63, by omega, hT7b, I7b.wi.hrs, by simp, I7b.wi.tp, by omega, by omega, fun r hr => (I7b.wi.rb r hr).1, fun x d H8 nx hx dw da db dl1 sa sb P8 S8 C8 => ?_⟩
        have I8 := I7b.stepX P7b C8
        have hul : us.length = k := by rw [I8.wi.hds.len, I8.wi.dlen]
        subst hR_
        try walk_at "WP"
        refine ⟨ty_list I8.wi.dll, us, I8.wi.dll, Nat.lt_of_lt_of_le (by omega : us.length < 1000) (le_size (by decide)), ?_⟩
        have t16 : (upd H8 dl (.lst (us ++ [.ref x]))) tb = some (.lst vs) := by rw [upd_ne I8.wi.td]; exact I8.wi.tbl
        have r16 : HRs (upd H8 dl (.lst (us ++ [.ref x]))) [dl, tb, p] vs (rowsW ins ds) := I8.wi.hrs.chg (by simp) (Chg.upd _)
        have x16 : (upd H8 dl (.lst (us ++ [.ref x]))) x = some (.tup (wTup d)) := by
          rw [upd_ne (ne_of hx I8.wi.dll (by intro z; cases z))]; exact hx
        have P16 : LPen (upd H8 dl (.lst (us ++ [.ref x]))) p a (c + 10 + 2000 * ((k + 1 : Nat) : Int)) := (P8.mono (d := c + 10 + 2000 * ((k + 1 : Nat) : Int)) (by omega)).chg (q := dl) I8.wi.dp.symm (Chg.upd (.lst (us ++ [.ref x])))
        have S16 := S8.chg I8.wi.dll (Chg.upd (.lst (us ++ [.ref x])))
        generalize hH16 : upd H8 dl (.lst (us ++ [.ref x])) = H16 at t16 r16 x16 P16 S16 ⊢
        obtain ⟨b1, b2⟩ := rowD_bound (d := d) I8.wi.rb I8.wi.rw_ (by omega) (by omega) sa.1 sa.2.1 sb.1 sb.2.1
        have lenR : ∀ j, j < ins + k → ((rowsW ins ds).getD j []).length = ins := fun j hj => by
          have e := List.getElem?_eq_getElem (show j < (rowsW ins ds).length by omega)
          rw [getD_of e]
          exact I8.wi.rw_ _ (List.mem_of_getElem? e)
        refine ⟨ty_list t16, tb, x, vs, [dl, tb, p], rowsW ins ds, d, rfl, t16, r16, x16, dw, da, db, sa.s4, sb.s4, by rw [lenR _ (by omega), lenR _ (by omega)], fun r hr => ⟨(I8.wi.rb r hr).1, I8.wi.rb.lt hr (by omega)⟩, fun acc H17 nacc s17 hacc => ?_⟩
        have t17 := s17 _ _ t16
        try walk_at "WP"
        refine ⟨vs, t17, Nat.lt_of_lt_of_le (by omega : vs.length < 1000) (le_size (by decide)), ?_⟩
        have Ifin := I8.app u1 (Same.refl _) hx (by rw [hH16]; exact s17) hacc (by rw [hH16]; exact nacc) (P16.ne nacc) (by omega) (by omega) dw sa sb b1 b2
        exact hN2 _ _ ⟨_, _, _, _, _, rfl, Ifin, (P16.same s17).chg (q := tb) I8.wi.tp.symm (Chg.upd _), (S16.same s17).chg t17 (Chg.upd _)⟩
      · rintro σ H7 ⟨vs, us, ds, o4, o5, rfl, I7, P7, S7⟩
        exact hN _ _ ⟨n, vs, us, ds, o4, o5, rfl, by omega, I7, P7.mono (by omega), S7⟩
    · rintro σ H5 ⟨kk, vs, us, ds, o4, o5, rfl, hkk, I5, P5, S5⟩
      try walk_at "WP"
      intro gl hgl
      have sg := same_new hgl (.lst [])
      have P6 := P5.same sg
      have S6 := S5.same sg
      have glp : gl ≠ p := P5.ne hgl
      have G0 : FG Hb p ins tb dl gl kk vs us [] ds [] (upd H5 gl (.lst [])) := ⟨⟨(I5.stepX P5 sg.chg).wi, (I5.wi.hrs.new hgl).same sg, upd_same, hts_nil, (fun g h => by cases h), I5.wi.chg.new glp hgl, glp, (ne_of_none I5.wi.dll hgl).symm, (ne_of_none I5.wi.tbl hgl).symm⟩, I5.sh, (fun g h => by cases h)⟩
      generalize upd H5 gl (.lst []) = H6 at G0 P6 S6 ⊢
      try walk_at "WP"
      refine ltake_ P6 S6 h63 (by omega) (by omega) (by omega) fun m H8 m0 m1 P8 S8 C8 => ?_
      obtain ⟨n, rfl⟩ := Int.eq_ofNat_of_zero_le m0
      try walk_at "WP"
      refine ⟨by omega, by omega, ?_⟩
      rw [Int.toNat_natCast]
      have G8 := G0.stepX P6 C8
      refine forR (fun j σ H9 => ∃ (os : List V) (gs : List Go) (o4 o7 : Option V), σ = [some (.ref p), some (.int ins), some (.ref tb), some (.ref dl), o4, o5, some (.ref gl), o7] ∧ FG Hb p ins tb dl gl kk vs us os ds gs H9 ∧ gs.length = j ∧ LPen H9 p a (c + 60000 + 1000 * j) ∧ Scr K H9 a ns)
        ⟨[], [], o4, none, rfl, G8, rfl, P8.mono (by omega), S8⟩ ?_ ?_
      · rintro j σ H9 N2 hj ⟨os, gs, o4, o7, rfl, G9, hgl9, P9, S9⟩ hN2
        have hT9 := G9.wg.wi.tbl
        have hvl : vs.length = ins + kk := by rw [G9.wg.wi.hrs.len, G9.wg.wi.rl]
        have hrl : (rowsW ins ds).length = ins + kk := G9.wg.wi.rl
        refine seq_inG fun R_ hR_ => ?_
        (iterate 5 ((try (walk_at "WP")); (try (simp only [hT9, Option.some.injEq, HO.tup.injEq, HO.lst.injEq, HO.dK.injEq, exists_eq_left', exists_eq_left])))); (try (walk_at "WP"))
        refine ltake_ P9 S9 h63 (by omega) (by omega) (by omega) fun ra H10 ra0 ra1 P10 S10 C10 => ?_
        obtain ⟨th, rfl⟩ := Int.eq_ofNat_of_zero_le ra0
        have G10 := G9.stepX P9 C10
        have hT10 := G10.wg.wi.tbl
        subst hR_
        (iterate 5 ((try (walk_at "WP")); (try (simp only [hT10, Option.some.injEq, HO.tup.injEq, HO.lst.injEq, HO.dK.injEq, exists_eq_left', exists_eq_left])))); (try (walk_at "WP"))
        obtain ⟨la, rowa, ea, ea1, ea2, ea3, ea4⟩ := row_of G10.wg.wi.hrs (j := th) (by omega)
        have ea5 := G10.wg.wi.rw_ _ ea3
        refine ⟨ty_list G10.wg.gll, _, ea1, p, a, la, ns, _, rowa, rfl, P10, S10, h63, by omega, ea2, by omega, ea4 p (by simp), fun sa H11 hsa P11 S11 C11 => ?_⟩
        have G11 := G10.stepX P10 C11
        intro t1 ht1
        refine abs_ ht1 fun H12 s12 h12 => ?_
        have G12 := G11.stepX P11 s12.chg
        have hol : os.length = j := by rw [G12.wg.hgs.len, hgl9]
        refine ⟨os, G12.wg.gll, Nat.lt_of_lt_of_le (by omega : os.length < 1000) (le_size (by decide)), ?_⟩
        have P12 := P11.same s12
        have S12 := S11.same s12
        exact hN2 _ _ ⟨_, _, _, _, rfl, G12.app (g := ⟨th, sa, 1⟩) h12 (by show th < _; omega) (.inr ⟨.inl rfl, by show Sh sa ((rowsW ins ds).getD th []); rw [getD_of ea]; exact hsa⟩), by simp [hgl9], (P12.mono (by omega)).chg (q := gl) G12.wg.gp.symm (Chg.upd _), S12.chg G12.wg.gll (Chg.upd _)⟩
      · rintro σ H9 ⟨os, gs, o4, o7, rfl, G9, hgl9, P9, S9⟩
        try walk_at "WP"
        intro w0 hw0
        have sw := same_new hw0 (.tup [V.int (ins : Int), V.ref dl, V.ref gl])
        have kd := G9.wg.wi.dlen
        refine q0 w0 dl gl ins us ds os gs _ ⟨upd_same, sw _ _ G9.wg.wi.dll, G9.wg.wi.hds.same sw, sw _ _ G9.wg.gll, G9.wg.hgs.same sw⟩ ⟨⟨u0, u1, G9.wg.wi.dk, ?_, ?_, ?_⟩, G9.sh, G9.go, ?_, G9.wg.wi.rw_⟩ G9.wg.wi.dp G9.wg.gp ((P9.same sw).mono (by omega)) (S9.same sw) (Cab.trans (G9.wg.wi.chg.trans sw.chg))
        · intro g hg
          rw [kd]
          exact G9.wg.gk g hg
        · rw [kd]; omega
        · omega
        · rw [kd]; exact G9.wg.wi.rb
end

section
variable {P : Program} {w : World} {K : PySem.W.Frag} {mg : Str → Option Value} {base : Heap}
theorem ok_due28 (T : Txt K mg) : Cal P w K mg base 4 "_law_due" ["_law_web"] spDue28 := by
  have B := T.bl
  have C_l_come := (ok_come28 (P := P) (w := w) (base := base) T).mono (k := 3) (by decide)
  have C_l_is_new := ok_new28 (P := P) (w := w) (base := base) T
  refine mkCal T.t_l_due sc_l_due (fun vs H Q E h => ?_) (fun f cdv A outer s H vs Q E hr h => ?_)
  · obtain ⟨x, _, _, _, _, _, _, _, rfl, _⟩ := h
    rfl
  obtain ⟨x, dl, gl, n, us, ds, os, gs, rfl, W, F, q⟩ := h
  refine ⟨_, ((@pss_cons _ _ _ _ _ (@ps_asg _ _ _ _ _ _ (pv 0) (@pg_tupM _ _ _ _ _ 3 rfl (@pgs_cons _ _ _ _ _ (@pg_name _ _ (1) _ sc_l_due.nd rfl (by first | exact Or.inl rfl | exact Or.inr rfl) (by first | exact .inl rfl | exact .inr rfl | assumption)) (@pgs_cons _ _ _ _ _ (@pg_name _ _ (2) _ sc_l_due.nd rfl (by first | exact Or.inl rfl | exact Or.inr rfl) (by first | exact .inl rfl | exact .inr rfl | assumption)) (@pgs_cons _ _ _ _ _ (@pg_name _ _ (3) _ sc_l_due.nd rfl (by first | exact Or.inl rfl | exact Or.inr rfl) (by first | exact .inl rfl | exact .inr rfl | assumption)) pgs_nil (by rfl)) (by rfl)) (by rfl)) (by rfl) (by rfl)) (by rfl) (by rfl) (by rfl)) (@pss_mid _ _ _ _ _ (@ps_setCompC _ _ _ _ (4) _ _ _ _ _ _ _ (["_law_i", "_law_ins"]) (1) ([1]) _ _ _ rfl (@pi_range1 _ _ _ _ _ _ rfl B.range (@pa_cons _ _ _ _ _ (pv 1) pa_nil (by rfl)) (by rfl)) (fun nd C s H fp => ⟨(@pg_name _ _ (0) _ nd rfl (by first | exact Or.inl rfl | exact Or.inr rfl) (by first | exact .inl rfl | exact .inr rfl | assumption)), pn_nil, (@pe_comp0 _ _ _ _ _ _ _ _ (["_law_k", "_law_i"]) (1) ([0]) _ _ _ rfl (@pi_range1 _ _ _ _ _ _ rfl B.range (@pa_cons _ _ _ _ _ (pv 1) pa_nil (by rfl)) (by rfl)) (fun nd C s H fp => ⟨(@pg_name _ _ (0) _ nd rfl (by first | exact Or.inl rfl | exact Or.inr rfl) (by first | exact .inl rfl | exact .inr rfl | assumption)), pn_nil, (@pe_callTy _ _ _ _ _ _ _ _ _ call_int1 rfl B.int bo_int (@pa_cons _ _ _ _ _ (@pe_cmpR _ _ _ _ _ _ _ _ op_eq (pv 0) (pv 1) (@nomark _ _ (by decide) (by decide))) pa_nil (by rfl)) (by decide) (by decide) (by rfl) (by rfl))⟩) (by decide +kernel) (by first | rfl | decide +kernel) (by first | rfl | decide +kernel) rfl (fun _ => rfl))⟩) (by decide +kernel) (by first | rfl | decide +kernel) (by first | rfl | decide +kernel) rfl (fun _ => rfl) sc_l_due.nd rfl (by first | exact Or.inl rfl | exact Or.inr rfl) (by first | exact .inl rfl | exact .inr rfl) rfl) (@pss_mid _ _ _ _ _ (@ps_for _ _ _ _ _ _ _ _ PassesOwn.never rfl (@pi_list _ _ _ _ (pv 2)) (@pg_name _ _ (5) _ sc_l_due.nd rfl (by first | exact Or.inl rfl | exact Or.inr rfl) (by first | exact .inl rfl | exact .inr rfl | assumption)) (@pss_cons _ _ _ _ _ (@ps_set _ _ (6) _ _ _ _ sc_l_due.nd rfl (by first | exact Or.inl rfl | exact Or.inr rfl) (@pe_cal _ _ _ _ _ _ _ _ _ _ C_l_come hr rfl (@pa_cons _ _ _ _ _ (pv 4) (@pa_cons _ _ _ _ _ (pv 5) pa_nil (by rfl)) (by rfl)) (by decide) (by rfl) (by rfl)) (by rfl) (by first | exact .inl rfl | exact .inr rfl | assumption)) (@pss_cons _ _ _ _ _ (@ps_if _ _ _ _ _ _ _ _ (@pt_not _ _ _ _ (@pt_val _ _ _ (@pe_cal _ _ _ _ _ _ _ _ _ _ C_l_is_new hr rfl (@pa_cons _ _ _ _ _ (pv 4) (@pa_cons _ _ _ _ _ (pv 6) pa_nil (by rfl)) (by rfl)) (by decide) (by rfl) (by rfl)) (by intro _ ; rfl))) (@pss_one _ _ _ (@ps_ret _ _ _ _ pe_bl)) pss_nil) (@pss_one _ _ _ (@ps_expr _ _ _ _ (@pe_bm _ _ _ _ _ _ _ _ _ _ _ _ PySem.F.plainAttrs_list PySem.F.slot_list_append PySem.F.type_list_append mt_append (pv 4) (@pa_cons _ _ _ _ _ (pv 6) pa_nil (by rfl)) (by rfl) (by rfl) (by rfl) (by rfl) (by rfl)) (by rfl))))) (by intro _ ; rfl)) (@pss_cons _ _ _ _ _ (@ps_setComp0 _ _ _ _ (7) _ _ _ _ _ _ _ (["_law_goal"]) (1) ([]) _ _ _ rfl (@pi_list _ _ _ _ (pv 3)) (fun nd C s H fp => ⟨(@pg_name _ _ (0) _ nd rfl (by first | exact Or.inl rfl | exact Or.inr rfl) (by first | exact .inl rfl | exact .inr rfl | assumption)), (@pn_one _ _ _ (@pt_cmpR _ _ _ _ _ _ _ _ op_ne (@pe_ix _ _ _ _ _ _ _ ix_U (pv 0) pe_int (fun _ _ => rfl)) pe_int (@nomark _ _ (by decide) (by decide)))), (@pe_ix _ _ _ _ _ _ _ ix_U (pv 0) pe_int (fun _ _ => rfl))⟩) (by decide +kernel) (by first | rfl | decide +kernel) (by first | rfl | decide +kernel) rfl (fun _ => rfl) sc_l_due.nd rfl (by first | exact Or.inl rfl | exact Or.inr rfl) (by first | exact .inl rfl | exact .inr rfl) rfl) (@pss_cons _ _ _ _ _ (@ps_for _ _ _ _ _ _ _ _ PassesOwn.never rfl (@pi_rangeD _ _ _ _ _ _ _ _ rfl B.range (@pa_cons _ _ _ _ _ (@pe_op _ _ _ _ _ _ _ _ op_sub (@pe_callB _ _ _ _ _ _ _ _ _ call_lenM rfl B.len bo_len (@pa_cons _ _ _ _ _ (pv 2) pa_nil (by rfl)) (by decide) (by decide) (by rfl) (by rfl)) pe_int) (@pa_cons _ _ _ _ _ (@pe_un _ _ _ _ _ _ un_neg pe_int) (@pa_cons _ _ _ _ _ (@pe_un _ _ _ _ _ _ un_neg pe_int) pa_nil (by rfl)) (by rfl)) (by rfl)) (by rfl) (by rfl)) (@pg_name _ _ (8) _ sc_l_due.nd rfl (by first | exact Or.inl rfl | exact Or.inr rfl) (by first | exact .inl rfl | exact .inr rfl | assumption)) (@pss_cons _ _ _ _ _ (@ps_if _ _ _ _ _ _ _ _ (@pt_cmpR _ _ _ _ _ _ _ _ op_notIn_seq (@pe_op _ _ _ _ _ _ _ _ op_add (pv 1) (pv 8)) (pv 7) (by with_unfolding_all rfl)) (@pss_one _ _ _ (@ps_ret _ _ _ _ pe_bl)) pss_nil) (@pss_one _ _ _ (@ps_expr _ _ _ _ (@pe_bm _ _ _ _ _ _ _ _ _ _ _ _ PySem.F.plainAttrs_list PySem.F.slot_list_extend PySem.F.type_list_extend mt_extend (pv 7) (@pa_cons _ _ _ _ _ (@pe_lst _ _ _ _ (@pa_cons _ _ _ _ _ (@pe_ix _ _ _ _ _ _ _ ix_U (@pe_ix _ _ _ _ _ _ _ ix_M (pv 2) (pv 8) (fun _ _ => rfl)) pe_int (fun _ _ => rfl)) (@pa_cons _ _ _ _ _ (@pe_ix _ _ _ _ _ _ _ ix_U (@pe_ix _ _ _ _ _ _ _ ix_M (pv 2) (pv 8) (fun _ _ => rfl)) pe_int (fun _ _ => rfl)) pa_nil (by rfl)) (by rfl))) pa_nil (by rfl)) (by rfl) (by rfl) (by rfl) (by rfl) (by rfl)) (by rfl)))) (by intro _ ; rfl)) (@pss_one _ _ _ (@ps_ret _ _ _ _ pe_bl)))))))), ?_⟩
  rw [show start ["_law_web", "_law_ins", "_law_deeds", "_law_goals", "_law_things_by", "_law_deed_here", "_law_line", "_law_met", "_law_k"] [.ref x] = [some (.ref x), none, none, none, none, none, none, none, none] from rfl]
  have h1 := W.tup
  have i1 := F.ok.i1
  have i12 := F.ok.i2
  have dl60 := F.ok.dl
  have gl12 := F.ok.gl
  (iterate 5 ((try (walk_at "WP")); (try (simp only [h1, Option.some.injEq, HO.tup.injEq, HO.lst.injEq, HO.dK.injEq, exists_eq_left', exists_eq_left])))); (try (walk_at "WP"))
  refine mid_of (fun σ H3 => ∃ (tb : Addr) (vs : List V), σ = [some (.ref x), some (.int n), some (.ref dl), some (.ref gl), some (.ref tb), none, none, none, none] ∧ H tb = none ∧ Same H H3 ∧ H3 tb = some (.lst vs) ∧ HRs H3 [tb] vs ((List.range n).map (unitRow n))) (fun N hN => ?_) ?_
  · try walk_at "WP"
    refine ⟨by omega, by omega, ?_⟩
    rw [Int.toNat_natCast]
    refine comp_rows (by omega) (unitRow n) [] (fun e he => by simp at he) (fun i Hb' R hi s' hR => ?_) (fun tb vs H3 hn s3 h3 hr3 => ?_)
    · rw [show capV [1] [some (V.ref x), some (V.int (n : Int)), some (V.ref dl), some (V.ref gl), none, none, none, none, none] = [some (.int n)] from rfl]
      try walk_at "WP"
      refine ⟨by omega, by omega, ?_⟩
      rw [Int.toNat_natCast]
      refine comp_R (f := unV i) (le_size (by omega)) (fun y H5 R5 hy s5 hR5 => ?_) (fun acc hacc => ?_)
      · obtain ⟨k, hk, rfl⟩ := List.mem_map.mp hy
        rw [show capV [0] [some (V.int (0 + (i : Int))), some (V.int (n : Int))] = [some (V.int (0 + (i : Int)))] from rfl]
        try walk_at "WP"
        rw [show (0 : Int) + (i : Int) = i by omega]
        exact hR5
      · rw [unV_map]
        exact hR acc _ hacc (same_new hacc _) upd_same
    · exact hN _ _ ⟨tb, vs, rfl, hn, s3, h3, hr3⟩
  · rintro σ H3 ⟨tb, vs, rfl, ntb, s3, htb, hrs⟩
    refine mid_of (fun σ H5 => ∃ (tb : Addr) (o5 o6 : Option V), σ = [some (.ref x), some (.int n), some (.ref dl), some (.ref gl), some (.ref tb), o5, o6, none, none] ∧ Same H H5 ∧ BareR n ds) (fun N hN => ?_) ?_
    · try walk_at "WP"
      refine ⟨⟨_, SqL.of (s3 _ _ W.dll)⟩, ?_⟩
      refine forL (xs := us) (fun i σ H6 => ∃ (vs : List V) (o5 o6 : Option V), σ = [some (.ref x), some (.int n), some (.ref dl), some (.ref gl), some (.ref tb), o5, o6, none, none] ∧ Same H H6 ∧ H6 tb = some (.lst vs) ∧ HRs H6 [tb] vs (rowsW n (ds.take i)) ∧ BareR n (ds.take i)) ⟨vs, none, none, rfl, s3, htb, hrs, bareR_nil n⟩ ?_ ?_ ?_
      · rintro i σ H6 _ ⟨_, _, _, _, s6, _⟩
        exact SqL.of (s6 _ _ W.dll)
      · rintro i y σ H6 N2 hy ⟨vs, o5, o6, rfl, s6, htb6, hrs6, B6⟩ hN2
        have il : i < ds.length := by rw [← W.hds.len]; exact (List.getElem?_eq_some_iff.mp hy).1
        have ed := List.getElem?_eq_getElem il
        generalize ds[i] = d at ed
        obtain ⟨t, t1, t2⟩ := W.hds.at_ i d ed
        rw [hy] at t1
        cases t1
        have ht6 := s6 _ _ t2
        obtain ⟨da, db, sa, sb⟩ := F.sh i d ed
        have dw := (F.ok.dk i d ed).2.2
        have rl : (rowsW n (ds.take i)).length = n + i := by rw [rowsW_len, List.length_take]; omega
        have rb : ∀ r ∈ rowsW n (ds.take i), r.length = n ∧ ∀ v ∈ r, v.natAbs < 2 ^ 9000 := fun r hr => ⟨F.wd r (rowsW_partM i hr), fun v hv => Nat.lt_trans (F.small r (rowsW_partM i hr) v hv) (Nat.pow_lt_pow_right (by decide) (by decide))⟩
        have lenR : ∀ j, j < n + i → ((rowsW n (ds.take i)).getD j []).length = n := fun j hj => by
          have e := List.getElem?_eq_getElem (show j < (rowsW n (ds.take i)).length by omega)
          rw [getD_of e]
          exact (rb _ (List.mem_of_getElem? e)).1
        rw [← rowsW_partD (i := i) (by omega) da] at sa
        rw [← rowsW_partD (i := i) (by omega) db] at sb
        have mD : rowD (rowsW n (ds.take i)) d ∈ rowsW n ds := by
          refine rowsW_partM (i + 1) ?_
          rw [take_snoc ed, rowsW_snoc]
          exact List.mem_append_right _ List.mem_cons_self
        refine seq_inG fun R_ hR_ => ?_
        try walk_at "WP"
        refine ⟨tb, t, vs, [tb], rowsW n (ds.take i), d, rfl, htb6, hrs6, ht6, dw, by omega, by omega, sa.s4, sb.s4, by rw [lenR _ (by omega), lenR _ (by omega)], fun r hr => ⟨by rw [(rb r hr).1]; omega, (rb r hr).2⟩, fun l H7 nl s7 hl => ?_⟩
        have htb7 := s7 _ _ htb6
        (try (walk_at "WP")); (try (refine seq_out hR_ ?_)); (try (refine seq_in fun R_ hR_ => ?_)); (try (walk_at "WP"))
        refine ⟨tb, l, vs, [tb], rowsW n (ds.take i), _, rfl, htb7, hrs6.same s7, hl, by rw [F.wd _ mD]; omega, by omega, fun r hr => ⟨by rw [(rb r hr).1, F.wd _ mD], (rb r hr).2⟩, fun v hv => Nat.lt_trans (F.small _ mD v hv) (Nat.pow_lt_pow_right (by decide) (by decide)), fun b H8 s8 hb => ?_⟩
        have s68 := s7.trans s8
        have s8' := s6.trans s68
        have snoc := bareR_snoc (n := n) (ds := ds.take i) (d := d)
        rw [← take_snoc ed] at snoc
        subst hR_
        try walk_at "WP"
        refine ite2 (fun z => ?_) (fun z => ?_)
        · refine q _ _ s8' ⟨fun y => (by cases y), fun Bq => ?_⟩
          have : BareR n (ds.take (i + 1)) := bareR_pre (es := ds.drop (i + 1)) (by rw [List.take_append_drop]; exact (bareQ_iff.mp Bq).1)
          have := hb.mpr (snoc.mp this).2
          rw [this] at z
          cases z
        · have bt : b = true := by cases b with
            | true => rfl
            | false => exact absurd rfl z
          have htb8 := s68 _ _ htb6
          have vl : vs.length = n + i := by rw [hrs6.len, rl]
          have lt : l ≠ tb := (ne_of_none htb6 nl).symm
          refine ⟨ty_list htb8, vs, htb8, Nat.lt_of_lt_of_le (by omega : vs.length < 1000) (le_size (by decide)), ?_⟩
          refine hN2 _ _ ⟨_, _, _, rfl, same_upd ntb s8', upd_same, ?_, snoc.mpr ⟨B6, hb.mp bt⟩⟩
          rw [take_snoc ed, rowsW_snoc]
          refine ((hrs6.same s68).chg (l := tb) (by simp) (Chg.upd _)).snoc (by rw [upd_ne lt]; exact s8 _ _ hl) fun e he => ?_
          rw [List.mem_singleton.mp he]
          exact lt
      · rintro σ H6 ⟨vs, o5, o6, rfl, s6, htb6, hrs6, B6⟩
        rw [List.take_of_length_le (by rw [W.hds.len]; omega)] at B6
        exact hN _ _ ⟨tb, o5, o6, rfl, s6, B6⟩
    · rintro σ H5 ⟨tb, o5, o6, rfl, s5, BR⟩
      try walk_at "WP"
      have hg5 := s5 _ _ W.gll
      refine ⟨⟨_, SqL.of hg5⟩, ?_⟩
      refine comp_ofF hg5 W.hgs.len (by omega) (fun g => if g.sg ≠ 0 then some (g.th : Int) else none) (fun k v g H' R hv hg s' hR => ?_) (fun me H6 nme s6 hme => ?_)
      · obtain ⟨t, t1, t2⟩ := W.hgs.at_ k g hg
        rw [hv] at t1
        cases t1
        have t3 := s' _ _ (s5 _ _ t2)
        unfold gTp at t3
        (iterate 5 ((try (walk_at "WP")); (try (simp only [t3, Option.some.injEq, HO.tup.injEq, HO.lst.injEq, HO.dK.injEq, exists_eq_left', exists_eq_left])))); (try (walk_at "WP"))
        have hR' := hR _ (Same.refl _)
        refine ite2 (fun z => ?_) (fun z => ?_)
        · rw [if_pos z] at hR'
          exact hR'
        · rw [if_neg z] at hR'
          exact hR'
      rw [wait0_mapI gs] at hme
      have s06 := s5.trans s6
      have nme' := s5.free nme
      have hd6 := s06 _ _ W.dll
      (iterate 5 ((try (walk_at "WP")); (try (simp only [hd6, Option.some.injEq, HO.tup.injEq, HO.lst.injEq, HO.dK.injEq, exists_eq_left', exists_eq_left])))); (try (walk_at "WP"))
      rw [W.hds.len]
      refine ⟨⟨by omega, by omega⟩, ?_⟩
      rw [show (((ds.length : Nat) : Int) - 1 + 1).toNat = ds.length by omega]
      refine forR3 (fun i σ H7 => ∃ (o8 : Option V) (ms : List Nat), σ = [some (.ref x), some (.int n), some (.ref dl), some (.ref gl), some (.ref tb), o5, o6, some (.ref me), o8] ∧ Same H H7 ∧ H7 me = some (.lst ((nints ms).map V.int)) ∧ ms.length ≤ 12 + 2 * i ∧ Met n ds gs i ms) ⟨none, _, rfl, s06, hme, Nat.le_trans (wait0_len gs) (by omega), met_nil⟩ ?_ ?_
      · rintro i σ H7 N hi ⟨o8, ms, rfl, s7, hm7, ml, M7⟩ hN
        obtain ⟨k, hk⟩ : ∃ k, k + i + 1 = ds.length := ⟨ds.length - 1 - i, by omega⟩
        rw [show ((ds.length : Nat) : Int) - 1 + (i : Int) * -1 = (k : Int) by omega]
        try walk_at "WP"
        rw [show (n : Int) + (k : Int) = ((n + k : Nat) : Int) by omega]
        have hkl : k < ds.length := by omega
        obtain ⟨y, hy1, hy2⟩ := W.hds.at_ k _ (List.getElem?_eq_getElem hkl)
        have hdk : ds[k]? = some ds[k] := List.getElem?_eq_getElem hkl
        generalize ds[k] = d at hy2 hdk
        refine ⟨me, _, rfl, .inl (SqL.of hm7), rfl, by rw [List.all_map]; simp [flatV], ?_⟩
        rw [if_pos rfl, inV_n]
        refine ⟨_, rfl, ?_⟩
        by_cases z : n + k ∈ ms
        · rw [decide_eq_true z, if_neg (by decide)]
          have hd7 := s7 _ _ W.dll
          have hy7 := s7 _ _ hy2
          unfold wTup at hy7
          refine ⟨ty_list hm7, us, hd7, _, atI_nat hy1, ?_⟩
          (iterate 5 ((try (walk_at "WP")); (try (simp only [hy7, hd7, Option.some.injEq, HO.tup.injEq, HO.lst.injEq, HO.dK.injEq, exists_eq_left', exists_eq_left])))); (try (walk_at "WP"))
          refine ⟨_, atI_nat hy1, ?_⟩
          (iterate 5 ((try (walk_at "WP")); (try (simp only [hy7, Option.some.injEq, HO.tup.injEq, HO.lst.injEq, HO.dK.injEq, exists_eq_left', exists_eq_left])))); (try (walk_at "WP"))
          intro e he
          have se := same_new he (.lst [V.int (d.a : Int), V.int (d.b : Int)])
          refine ⟨_, se _ _ hm7, le_size (by rw [List.length_map, nints_len]; omega), ?_⟩
          rw [show (nints ms).map V.int ++ [V.int (d.a : Int), V.int (d.b : Int)] = (nints (ms ++ [d.a, d.b])).map V.int by rw [nints_app, List.map_append]; rfl]
          exact hN _ _ ⟨_, _, rfl, same_upd nme' (s7.trans se), upd_same, by rw [List.length_append]; show ms.length + 2 ≤ _; omega, met_step M7 (by omega) hdk z⟩
        · rw [decide_eq_false z, if_pos (show (!false) = true from rfl)]
          refine q _ _ s7 ⟨fun y => (by cases y), fun Bq => absurd (Bq.2.2 (n + k) (by omega) (by omega)) (met_not M7 F.ok.dk (by omega) z)⟩
      · rintro σ H7 ⟨o8, ms, rfl, s7, hm7, ml, M7⟩
        try walk_at "WP"
        exact q _ _ s7 ⟨fun _ => bareQ_iff.mpr ⟨BR, fun i h1 h2 => by have := M7.all (i - n) (by omega) (by omega); rwa [show n + (i - n) = i by omega] at this⟩, fun _ => rfl⟩
end

section
variable {P : Program} {w : World} {K : PySem.W.Frag} {mg : Str → Option Value} {base : Heap}
def IsW28 (H : Hp) (p : Addr) (v : V) : Prop := ∃ w dl gl n us ds os gs, v = .ref w ∧ Wb H w dl gl n us ds os gs ∧ FWeb n ds gs ∧ dl ≠ p ∧ gl ≠ p
theorem IsW28.same {H H' : Hp} {p : Addr} {v : V} (h : IsW28 H p v) (s : Same H H') : IsW28 H' p v := by
  obtain ⟨w, dl, gl, n, us, ds, os, gs, e, W, F⟩ := h
  exact ⟨w, dl, gl, n, us, ds, os, gs, e, W.same s, F⟩
theorem IsW28.chg {H H' : Hp} {p a : Addr} {c : Int} {v : V} (h : IsW28 H p v) (hp : LPen H p a c) (C : Chg p H H') : IsW28 H' p v := by
  obtain ⟨w, dl, gl, n, us, ds, os, gs, e, W, F, h1, h2⟩ := h
  obtain ⟨pl, hpl⟩ := hp.lst
  exact ⟨w, dl, gl, n, us, ds, os, gs, e, W.chg hpl h1 h2 C, F, h1, h2⟩
theorem ok_law (T : Txt K mg) {f : Addr} {fd : FuncData} (F : Fun K "law" "law" s_law f fd) : FnOk P w K mg base CX0 20 f fd ["_law_script"] (spLaw K) := by
  have B := T.bl
  have C_l_pen := (ok_lpen (P := P) (w := w) (base := base) T).mono (k := 19) (by decide)
  have C_l_built := (ok_built (P := P) (w := w) (base := base) T).mono (k := 19) (by decide)
  have C_l_bent := (ok_bent (P := P) (w := w) (base := base) T).mono (k := 19) (by decide)
  have C_l_any := (ok_any28 (P := P) (w := w) (base := base) T).mono (k := 19) (by decide)
  have C_l_due := (ok_due28 (P := P) (w := w) (base := base) T).mono (k := 19) (by decide)
  have C_is_bare := (ok_isbareK (P := P) (w := w) (base := base) T).mono (k := 19) (by decide)
  refine F.ok sc_law (fun vs H Q E h => ?_) (fun cdv A outer s H vs Q E hr h => ?_)
  · obtain ⟨a, ns, rfl, _⟩ := h
    rfl
  obtain ⟨a, ns, rfl, hS, h63, q⟩ := h
  refine ⟨_, ((@pss_cons _ _ _ _ _ (@ps_set _ _ (1) _ _ _ _ sc_law.nd rfl (by first | exact Or.inl rfl | exact Or.inr rfl) (@pe_cal _ _ _ _ _ _ _ _ _ _ C_l_pen hr rfl (@pa_cons _ _ _ _ _ (pv 0) pa_nil (by rfl)) (by decide) (by rfl) (by rfl)) (by rfl) (by first | exact .inl rfl | exact .inr rfl | assumption)) (@pss_cons _ _ _ _ _ (@ps_asg _ _ _ _ _ _ (@pe_cal _ _ _ _ _ _ _ _ _ _ C_l_built hr rfl (@pa_cons _ _ _ _ _ (pv 1) pa_nil (by rfl)) (by decide) (by rfl) (by rfl)) (@pg_lst _ _ _ _ _ 2 rfl (@pgs_cons _ _ _ _ _ (@pg_name _ _ (2) _ sc_law.nd rfl (by first | exact Or.inl rfl | exact Or.inr rfl) (by first | exact .inl rfl | exact .inr rfl | assumption)) (@pgs_cons _ _ _ _ _ (@pg_name _ _ (3) _ sc_law.nd rfl (by first | exact Or.inl rfl | exact Or.inr rfl) (by first | exact .inl rfl | exact .inr rfl | assumption)) pgs_nil (by rfl)) (by rfl)) (by rfl) (by rfl)) (by rfl) (by rfl) (by rfl)) (@pss_cons _ _ _ _ _ (@ps_set _ _ (4) _ _ _ _ sc_law.nd rfl (by first | exact Or.inl rfl | exact Or.inr rfl) (@pe_lst _ _ _ _ (@pa_cons _ _ _ _ _ (pv 2) (@pa_cons _ _ _ _ _ (@pe_cal _ _ _ _ _ _ _ _ _ _ C_l_bent hr rfl (@pa_cons _ _ _ _ _ (pv 1) (@pa_cons _ _ _ _ _ (pv 2) (@pa_cons _ _ _ _ _ (pv 3) pa_nil (by rfl)) (by rfl)) (by rfl)) (by decide) (by rfl) (by rfl)) (@pa_cons _ _ _ _ _ (@pe_cal _ _ _ _ _ _ _ _ _ _ C_l_any hr rfl (@pa_cons _ _ _ _ _ (pv 1) pa_nil (by rfl)) (by decide) (by rfl) (by rfl)) (@pa_cons _ _ _ _ _ (@pe_cal _ _ _ _ _ _ _ _ _ _ C_l_bent hr rfl (@pa_cons _ _ _ _ _ (pv 1) (@pa_cons _ _ _ _ _ (pv 2) (@pa_cons _ _ _ _ _ (pv 3) pa_nil (by rfl)) (by rfl)) (by rfl)) (by decide) (by rfl) (by rfl)) (@pa_cons _ _ _ _ _ (@pe_cal _ _ _ _ _ _ _ _ _ _ C_l_any hr rfl (@pa_cons _ _ _ _ _ (pv 1) pa_nil (by rfl)) (by decide) (by rfl) (by rfl)) pa_nil (by rfl)) (by rfl)) (by rfl)) (by rfl)) (by rfl))) (by rfl) (by first | exact .inl rfl | exact .inr rfl | assumption)) (@pss_cons _ _ _ _ _ (@ps_for _ _ _ _ _ _ _ _ PassesOwn.never rfl (@pi_list _ _ _ _ (@pe_op _ _ _ _ _ _ _ _ op_cat (pv 4) (@pe_slice _ _ _ _ _ _ _ _ _ _ sl_list (pv 4) po_none (@po_some _ _ _ pe_int)))) (@pg_name _ _ (5) _ sc_law.nd rfl (by first | exact Or.inl rfl | exact Or.inr rfl) (by first | exact .inl rfl | exact .inr rfl | assumption)) (@pss_cons _ _ _ _ _ (@ps_set _ _ (6) _ _ _ _ sc_law.nd rfl (by first | exact Or.inl rfl | exact Or.inr rfl) (@pe_tup _ _ _ _ _ (@pa_cons _ _ _ _ _ (@pe_ix _ _ _ _ _ _ _ ix_U (pv 5) pe_int (fun _ _ => rfl)) (@pa_cons _ _ _ _ _ (@pe_callTy _ _ _ _ _ _ _ _ _ call_list_of rfl B.list bo_list (@pa_cons _ _ _ _ _ (@pe_ix _ _ _ _ _ _ _ ix_U (pv 5) pe_int (fun _ _ => rfl)) pa_nil (by rfl)) (by decide) (by decide) (by rfl) (by rfl)) (@pa_cons _ _ _ _ _ (@pe_callTy _ _ _ _ _ _ _ _ _ call_list_of rfl B.list bo_list (@pa_cons _ _ _ _ _ (@pe_ix _ _ _ _ _ _ _ ix_U (pv 5) pe_int (fun _ _ => rfl)) pa_nil (by rfl)) (by decide) (by decide) (by rfl) (by rfl)) pa_nil (by rfl)) (by rfl)) (by rfl))) (by rfl) (by first | exact .inl rfl | exact .inr rfl | assumption)) (@pss_cons _ _ _ _ _ (@ps_set _ _ (7) _ _ _ _ sc_law.nd rfl (by first | exact Or.inl rfl | exact Or.inr rfl) (@pe_cal _ _ _ _ _ _ _ _ _ _ C_is_bare hr rfl (@pa_cons _ _ _ _ _ (pv 6) pa_nil (by rfl)) (by decide) (by rfl) (by rfl)) (by rfl) (by first | exact .inl rfl | exact .inr rfl | assumption)) (@pss_one _ _ _ (@ps_if _ _ _ _ _ _ _ _ (@PW.pt _ _ _ (@pw_or _ _ _ _ _ _ _ (@pt_not _ _ _ _ (@pt_val _ _ _ (@pe_callB _ _ _ _ _ _ _ _ _ call_isI rfl B.isinstance bo_isinstance (@pa_cons _ _ _ _ _ (pv 7) (@pa_cons _ _ _ _ _ (@pe_bltn _ _ (.ty "bool") _ _ rfl B.bool bo_bool rfl (by decide) (by decide)) pa_nil (by rfl)) (by rfl)) (by decide) (by decide) (by rfl) (by rfl)) (by intro _ ; rfl))) (@pw_or _ _ _ _ _ _ _ (@pt_cmpR _ _ _ _ _ _ _ _ op_ne (pv 7) (@pe_cal _ _ _ _ _ _ _ _ _ _ C_l_due hr rfl (@pa_cons _ _ _ _ _ (pv 5) pa_nil (by rfl)) (by decide) (by rfl) (by rfl)) (@nomark _ _ (by decide) (by decide))) (@pw_or1 _ _ _ _ (@pt_cmpR _ _ _ _ _ _ _ _ (@op_neD _ _ hr) (pv 6) (pv 5) (@nomark _ _ (by decide) (by decide))))))) (@pss_one _ _ _ (@ps_ret _ _ _ _ pe_bl)) pss_nil)))) (by intro _ ; rfl)) (@pss_one _ _ _ (@ps_ret _ _ _ _ (@pe_cmpR _ _ _ _ _ _ _ _ op_isB (@pe_cal _ _ _ _ _ _ _ _ _ _ C_is_bare hr rfl (@pa_cons _ _ _ _ _ (pv 2) pa_nil (by rfl)) (by decide) (by rfl) (by rfl)) pe_bl (@nomark _ _ (by decide) (by decide)))))))))), ?_⟩
  rw [show start ["_law_script", "_law_pen_here", "_law_web", "_law_things_by", "_law_webs", "_law_one", "_law_handed", "_law_found"] [.ref a] = [some (.ref a), none, none, none, none, none, none, none] from rfl]
  try walk_at "WP"
  refine ⟨a, rfl, fun p H1 hp s1 P1 => ?_⟩
  have S1 := hS.same s1
  try walk_at "WP"
  try walk_at "WP"
  refine ⟨p, a, ns, 0, rfl, P1, S1, h63, by decide, fun l w0 dl gl tb ins us ds os gs ts H2 hl W0 F0 d40 g3 htb hrs BQ dp gp tp lp P2 S2 C2 => ?_⟩
  (iterate 5 ((try (walk_at "WP")); (try (simp only [hl, Option.some.injEq, HO.tup.injEq, HO.lst.injEq, HO.dK.injEq, exists_eq_left', exists_eq_left])))); (try (walk_at "WP"))
  try walk_at "WP"
  refine ⟨p, a, w0, dl, gl, tb, ns, _, ins, us, ds, os, gs, ts, rfl, P2, S2, h63, by omega, W0, F0, d40, g3, htb, hrs, dp, gp, tp, fun w1 dl1 gl1 us1 ds1 os1 gs1 H3 W1 F1 dp1 gp1 P3 S3 C3 => ?_⟩
  obtain ⟨pl2, hpl2⟩ := P2.lst
  obtain ⟨pl3, hpl3⟩ := P3.lst
  have I1 : IsW28 H3 p (.ref w1) := ⟨_, _, _, _, _, _, _, _, rfl, W1, F1, dp1, gp1⟩
  have W03 := W0.chg hpl2 dp gp C3
  try walk_at "WP"
  refine ⟨p, a, ns, _, rfl, P3, S3, h63, by omega, fun w2 dl2 gl2 n2 us2 ds2 os2 gs2 H4 W2 F2 dp2 gp2 P4 S4 C4 => ?_⟩
  have I2 : IsW28 H4 p (.ref w2) := ⟨_, _, _, _, _, _, _, _, rfl, W2, F2, dp2, gp2⟩
  have W04 := W03.chg hpl3 dp gp C4
  have htb4 := C4 _ _ tp (C3 _ _ tp htb)
  have hrs4 := (hrs.chg (by simp) C3).chg (by simp) C4
  try walk_at "WP"
  refine ⟨p, a, w0, dl, gl, tb, ns, _, ins, us, ds, os, gs, ts, rfl, P4, S4, h63, by omega, W04, F0, d40, g3, htb4, hrs4, dp, gp, tp, fun w3 dl3 gl3 us3 ds3 os3 gs3 H5 W3 F3 dp3 gp3 P5 S5 C5 => ?_⟩
  obtain ⟨pl4, hpl4⟩ := P4.lst
  obtain ⟨pl5, hpl5⟩ := P5.lst
  have I3 : IsW28 H5 p (.ref w3) := ⟨_, _, _, _, _, _, _, _, rfl, W3, F3, dp3, gp3⟩
  have W05 := W04.chg hpl4 dp gp C5
  try walk_at "WP"
  refine ⟨p, a, ns, _, rfl, P5, S5, h63, by omega, fun w4 dl4 gl4 n4 us4 ds4 os4 gs4 H6 W4 F4 dp4 gp4 P6 S6 C6 => ?_⟩
  have W06 := W05.chg hpl5 dp gp C6
  have I06 : IsW28 H6 p (.ref w0) := ⟨_, _, _, _, _, _, _, _, rfl, W06, F0, dp, gp⟩
  have I46 : IsW28 H6 p (.ref w4) := ⟨_, _, _, _, _, _, _, _, rfl, W4, F4, dp4, gp4⟩
  have I16 := ((I1.chg P3 C4).chg P4 C5).chg P5 C6
  have I26 := (I2.chg P4 C5).chg P5 C6
  have I36 := I3.chg P5 C6
  try walk_at "WP"
  intro lw nlw
  refine abs_ nlw fun H7 s7 h7 => ?_
  try walk_at "WP"
  (iterate 5 ((try (walk_at "WP")); (try (simp only [h7, Option.some.injEq, HO.tup.injEq, HO.lst.injEq, HO.dK.injEq, exists_eq_left', exists_eq_left])))); (try (walk_at "WP"))
  refine ⟨_, SqL.of h7, fun sl nsl => ?_⟩
  rw [show cutV [V.ref w0, V.ref w1, V.ref w2, V.ref w3, V.ref w4] none (some 2) = [V.ref w0, V.ref w1] from cut_take (n := 2)]
  refine abs_ nsl fun H8 s8 h8 => ?_
  refine ⟨_, s8 _ _ h7, le_size (by show 5 + 2 ≤ 1000; decide), fun ll nll => ?_⟩
  refine abs_ nll fun H9 s9 h9 => ?_
  have s69 := (s7.trans s8).trans s9
  refine ⟨⟨_, SqL.of h9⟩, ?_⟩
  refine forL (xs := [V.ref w0, V.ref w1, V.ref w2, V.ref w3, V.ref w4, V.ref w0, V.ref w1]) (fun i σ G => ∃ (o5 o6 o7 : Option V), σ = [some (.ref a), some (.ref p), some (.ref w0), some (.ref tb), some (.ref lw), o5, o6, o7] ∧ Same H9 G) ⟨none, none, none, rfl, Same.refl _⟩ ?_ ?_ ?_
  · rintro i σ G _ ⟨_, _, _, _, sG⟩
    exact SqL.of (sG _ _ h9)
  · rintro i x σ G N2 hx ⟨o5, o6, o7, rfl, sG⟩ hN2
    have s6G := s69.trans sG
    have IX : IsW28 G p x := by
      have hm := List.mem_of_getElem? hx
      simp only [List.mem_cons, List.not_mem_nil, or_false] at hm
      rcases hm with z | z | z | z | z | z | z <;> subst z
      · exact I06.same s6G
      · exact I16.same s6G
      · exact I26.same s6G
      · exact I36.same s6G
      · exact I46.same s6G
      · exact I06.same s6G
      · exact I16.same s6G
    obtain ⟨v, dk, gk, n, ut, dt, ot, gt, rfl, W, FW, _, _⟩ := IX
    have u6 := W.tup
    (iterate 5 ((try (walk_at "WP")); (try (simp only [u6, Option.some.injEq, HO.tup.injEq, HO.lst.injEq, HO.dK.injEq, exists_eq_left', exists_eq_left])))); (try (walk_at "WP"))
    refine ⟨ut, .inl (SqL.of W.dll), fun l1 nl1 => ?_⟩
    refine abs_ nl1 fun HA sA e1 => ?_
    have u7 := sA _ _ u6
    (iterate 5 ((try (walk_at "WP")); (try (simp only [u7, Option.some.injEq, HO.tup.injEq, HO.lst.injEq, HO.dK.injEq, exists_eq_left', exists_eq_left])))); (try (walk_at "WP"))
    refine ⟨ot, .inl (SqL.of (sA _ _ W.gll)), fun l2 nl2 => ?_⟩
    refine abs_ nl2 fun HB sB e2 => ?_
    intro ha hha
    refine abs_ hha fun HC sC e3 => ?_
    have sGC := (sA.trans sB).trans sC
    have WH : Wb HC ha l1 l2 n ut dt ot gt := ⟨e3, (sB.trans sC) _ _ e1, W.hds.same sGC, sC _ _ e2, W.hgs.same sGC⟩
    try walk_at "WP"
    refine ⟨ha, l1, l2, n, ut, dt, ot, gt, rfl, WH.wk, FW.f4, FW.small, fun b HD sD hb => ?_⟩
    try walk_at "WP"
    have sGD := sGC.trans sD
    refine ⟨v, dk, gk, n, ut, dt, ot, gt, rfl, W.same sGD, FW, fun b' HE sE hb' => ?_⟩
    have bb : b = b' := by
      cases b <;> cases b' <;> first | rfl | exact absurd (hb'.mpr (hb.mp rfl)) (by decide) | exact absurd (hb.mpr (hb'.mp rfl)) (by decide)
    subst bb
    have sGE := sGD.trans sE
    try walk_at "WP"
    refine ne_web (WH.same (sD.trans sE)) (W.same sGE) ⟨false, rfl, ?_⟩
    rw [if_neg (by decide)]
    exact hN2 _ _ ⟨_, _, _, rfl, sG.trans sGE⟩
  · rintro σ G ⟨o5, o6, o7, rfl, sG⟩
    try walk_at "WP"
    have s6G := s69.trans sG
    refine ⟨w0, dl, gl, ins, us, ds, os, gs, rfl, (W06.same s6G).wk, F0.f4, F0.small, fun b HA sA hb => ?_⟩
    rw [hb.mpr BQ]
    try walk_at "WP"
    exact ⟨true, true, rfl, rfl, q _⟩
end

theorem ln1 {α : Type} {us : List α} (h : us.length = 1) : ∃ a0, us = [a0] := match us, h with | [a0], _ => ⟨a0, rfl⟩
theorem ln2 {α : Type} {us : List α} (h : us.length = 2) : ∃ a0 a1, us = [a0, a1] := match us, h with | [a0, a1], _ => ⟨a0, a1, rfl⟩
theorem ln3 {α : Type} {us : List α} (h : us.length = 3) : ∃ a0 a1 a2, us = [a0, a1, a2] := match us, h with | [a0, a1, a2], _ => ⟨a0, a1, a2, rfl⟩
theorem all_mk {l : PySem.W.OpenLaw} {w : World} {K : PySem.W.Frag} {h : Heap} {mg : Str → Option Value} {fa : Addr} (X : K.In h) (G : h.Ns mainGlobals mg) (hfa : mg "law" = some (.ref fa))
    {f1 : Addr} {od1 an1 : Option Addr} {sl1 : Array (Option Value)} {oc1 kV1 dc1 pm1 cd1 ct1 : Value} {f2 : Addr} {od2 an2 : Option Addr} {sl2 : Array (Option Value)} {oc2 kV2 dc2 pm2 cd2 ct2 : Value} {f3 : Addr} {od3 an3 : Option Addr} {sl3 : Array (Option Value)} {oc3 kV3 dc3 pm3 cd3 ct3 : Value} {f4 : Addr} {od4 an4 : Option Addr} {sl4 : Array (Option Value)} {oc4 kV4 dc4 pm4 cd4 ct4 : Value} {f5 : Addr} {od5 an5 : Option Addr} {sl5 : Array (Option Value)} {oc5 kV5 dc5 pm5 cd5 ct5 : Value} {f6 : Addr} {od6 an6 : Option Addr} {sl6 : Array (Option Value)} {oc6 kV6 dc6 pm6 cd6 ct6 : Value} {f7 : Addr} {od7 an7 : Option Addr} {sl7 : Array (Option Value)} {oc7 kV7 dc7 pm7 cd7 ct7 : Value} {f8 : Addr} {od8 an8 : Option Addr} {sl8 : Array (Option Value)} {oc8 kV8 dc8 pm8 cd8 ct8 : Value} {f9 : Addr} {od9 an9 : Option Addr} {sl9 : Array (Option Value)} {oc9 kV9 dc9 pm9 cd9 ct9 : Value} {f10 : Addr} {od10 an10 : Option Addr} {sl10 : Array (Option Value)} {oc10 kV10 dc10 pm10 cd10 ct10 : Value} {f11 : Addr} {od11 an11 : Option Addr} {sl11 : Array (Option Value)} {oc11 kV11 dc11 pm11 cd11 ct11 : Value} {f12 : Addr} {od12 an12 : Option Addr} {sl12 : Array (Option Value)} {oc12 kV12 dc12 pm12 cd12 ct12 : Value} {f13 : Addr} {od13 an13 : Option Addr} {sl13 : Array (Option Value)} {oc13 kV13 dc13 pm13 cd13 ct13 : Value} {f14 : Addr} {od14 an14 : Option Addr} {sl14 : Array (Option Value)} {oc14 kV14 dc14 pm14 cd14 ct14 : Value} {f15 : Addr} {od15 an15 : Option Addr} {sl15 : Array (Option Value)} {oc15 kV15 dc15 pm15 cd15 ct15 : Value} {f16 : Addr} {od16 an16 : Option Addr} {sl16 : Array (Option Value)} {oc16 kV16 dc16 pm16 cd16 ct16 : Value} {f17 : Addr} {od17 an17 : Option Addr} {sl17 : Array (Option Value)} {oc17 kV17 dc17 pm17 cd17 ct17 : Value} {f18 : Addr} {od18 an18 : Option Addr} {sl18 : Array (Option Value)} {oc18 kV18 dc18 pm18 cd18 ct18 : Value} {f19 : Addr} {od19 an19 : Option Addr} {sl19 : Array (Option Value)} {oc19 kV19 dc19 pm19 cd19 ct19 : Value} {f20 : Addr} {od20 an20 : Option Addr} {sl20 : Array (Option Value)} {oc20 kV20 dc20 pm20 cd20 ct20 : Value} {f21 : Addr} {od21 an21 : Option Addr} {sl21 : Array (Option Value)} {oc21 kV21 dc21 pm21 cd21 ct21 : Value} {f22 : Addr} {od22 an22 : Option Addr} {sl22 : Array (Option Value)} {oc22 kV22 dc22 pm22 cd22 ct22 : Value} {f23 : Addr} {od23 an23 : Option Addr} {sl23 : Array (Option Value)} {oc23 kV23 dc23 pm23 cd23 ct23 : Value} {f24 : Addr} {od24 an24 : Option Addr} {sl24 : Array (Option Value)} {oc24 kV24 dc24 pm24 cd24 ct24 : Value} {f25 : Addr} {od25 an25 : Option Addr} {sl25 : Array (Option Value)} {oc25 kV25 dc25 pm25 cd25 ct25 : Value} {f26 : Addr} {od26 an26 : Option Addr} {sl26 : Array (Option Value)} {oc26 kV26 dc26 pm26 cd26 ct26 : Value} {f27 : Addr} {od27 an27 : Option Addr} {sl27 : Array (Option Value)} {oc27 kV27 dc27 pm27 cd27 ct27 : Value}
    (a1 : PySem.W.nsIn K mainGlobals "core" = some (some (.ref f1))) (l1 : K.lookup f1 = some ⟨oc1, od1, .func (PySem.W.fnOf "core" "core" (defArgs s_core) (defBody s_core) (defScope s_core) .none kV1 dc1 pm1 an1 cd1 ct1), sl1⟩) (c1 : PySem.W.codeIn K cd1 "core" = true) (k1 : PySem.W.keepIn K (.ref f1) = true)
    (a2 : PySem.W.nsIn K mainGlobals "shifted" = some (some (.ref f2))) (l2 : K.lookup f2 = some ⟨oc2, od2, .func (PySem.W.fnOf "shifted" "shifted" (defArgs s_shifted) (defBody s_shifted) (defScope s_shifted) .none kV2 dc2 pm2 an2 cd2 ct2), sl2⟩) (c2 : PySem.W.codeIn K cd2 "shifted" = true) (k2 : PySem.W.keepIn K (.ref f2) = true)
    (a3 : PySem.W.nsIn K mainGlobals "shifted_row" = some (some (.ref f3))) (l3 : K.lookup f3 = some ⟨oc3, od3, .func (PySem.W.fnOf "shifted_row" "shifted_row" (defArgs s_shifted_row) (defBody s_shifted_row) (defScope s_shifted_row) .none kV3 dc3 pm3 an3 cd3 ct3), sl3⟩) (c3 : PySem.W.codeIn K cd3 "shifted_row" = true) (k3 : PySem.W.keepIn K (.ref f3) = true)
    (a4 : PySem.W.nsIn K mainGlobals "input_rows" = some (some (.ref f4))) (l4 : K.lookup f4 = some ⟨oc4, od4, .func (PySem.W.fnOf "input_rows" "input_rows" (defArgs s_input_rows) (defBody s_input_rows) (defScope s_input_rows) .none kV4 dc4 pm4 an4 cd4 ct4), sl4⟩) (c4 : PySem.W.codeIn K cd4 "input_rows" = true) (k4 : PySem.W.keepIn K (.ref f4) = true)
    (a5 : PySem.W.nsIn K mainGlobals "input_row" = some (some (.ref f5))) (l5 : K.lookup f5 = some ⟨oc5, od5, .func (PySem.W.fnOf "input_row" "input_row" (defArgs s_input_row) (defBody s_input_row) (defScope s_input_row) .none kV5 dc5 pm5 an5 cd5 ct5), sl5⟩) (c5 : PySem.W.codeIn K cd5 "input_row" = true) (k5 : PySem.W.keepIn K (.ref f5) = true)
    (a6 : PySem.W.nsIn K mainGlobals "deed_row" = some (some (.ref f6))) (l6 : K.lookup f6 = some ⟨oc6, od6, .func (PySem.W.fnOf "deed_row" "deed_row" (defArgs s_deed_row) (defBody s_deed_row) (defScope s_deed_row) .none kV6 dc6 pm6 an6 cd6 ct6), sl6⟩) (c6 : PySem.W.codeIn K cd6 "deed_row" = true) (k6 : PySem.W.keepIn K (.ref f6) = true)
    (a7 : PySem.W.nsIn K mainGlobals "second_sign" = some (some (.ref f7))) (l7 : K.lookup f7 = some ⟨oc7, od7, .func (PySem.W.fnOf "second_sign" "second_sign" (defArgs s_second_sign) (defBody s_second_sign) (defScope s_second_sign) .none kV7 dc7 pm7 an7 cd7 ct7), sl7⟩) (c7 : PySem.W.codeIn K cd7 "second_sign" = true) (k7 : PySem.W.keepIn K (.ref f7) = true)
    (a8 : PySem.W.nsIn K mainGlobals "numbers" = some (some (.ref f8))) (l8 : K.lookup f8 = some ⟨oc8, od8, .func (PySem.W.fnOf "numbers" "numbers" (defArgs s_numbers) (defBody s_numbers) (defScope s_numbers) .none kV8 dc8 pm8 an8 cd8 ct8), sl8⟩) (c8 : PySem.W.codeIn K cd8 "numbers" = true) (k8 : PySem.W.keepIn K (.ref f8) = true)
    (a9 : PySem.W.nsIn K mainGlobals "deed_arrows" = some (some (.ref f9))) (l9 : K.lookup f9 = some ⟨oc9, od9, .func (PySem.W.fnOf "deed_arrows" "deed_arrows" (defArgs s_deed_arrows) (defBody s_deed_arrows) (defScope s_deed_arrows) .none kV9 dc9 pm9 an9 cd9 ct9), sl9⟩) (c9 : PySem.W.codeIn K cd9 "deed_arrows" = true) (k9 : PySem.W.keepIn K (.ref f9) = true)
    (a10 : PySem.W.nsIn K mainGlobals "thing_count" = some (some (.ref f10))) (l10 : K.lookup f10 = some ⟨oc10, od10, .func (PySem.W.fnOf "thing_count" "thing_count" (defArgs s_thing_count) (defBody s_thing_count) (defScope s_thing_count) .none kV10 dc10 pm10 an10 cd10 ct10), sl10⟩) (c10 : PySem.W.codeIn K cd10 "thing_count" = true) (k10 : PySem.W.keepIn K (.ref f10) = true)
    (a11 : PySem.W.nsIn K mainGlobals "used" = some (some (.ref f11))) (l11 : K.lookup f11 = some ⟨oc11, od11, .func (PySem.W.fnOf "used" "used" (defArgs s_used) (defBody s_used) (defScope s_used) .none kV11 dc11 pm11 an11 cd11 ct11), sl11⟩) (c11 : PySem.W.codeIn K cd11 "used" = true) (k11 : PySem.W.keepIn K (.ref f11) = true)
    (a12 : PySem.W.nsIn K mainGlobals "form_of" = some (some (.ref f12))) (l12 : K.lookup f12 = some ⟨oc12, od12, .func (PySem.W.fnOf "form_of" "form_of" (defArgs s_form_of) (defBody s_form_of) (defScope s_form_of) .none kV12 dc12 pm12 an12 cd12 ct12), sl12⟩) (c12 : PySem.W.codeIn K cd12 "form_of" = true) (k12 : PySem.W.keepIn K (.ref f12) = true)
    (a13 : PySem.W.nsIn K mainGlobals "is_bare" = some (some (.ref f13))) (l13 : K.lookup f13 = some ⟨oc13, od13, .func (PySem.W.fnOf "is_bare" "is_bare" (defArgs s_is_bare) (defBody s_is_bare) (defScope s_is_bare) .none kV13 dc13 pm13 an13 cd13 ct13), sl13⟩) (c13 : PySem.W.codeIn K cd13 "is_bare" = true) (k13 : PySem.W.keepIn K (.ref f13) = true)
    (a14 : PySem.W.nsIn K mainGlobals "_law_pen" = some (some (.ref f14))) (l14 : K.lookup f14 = some ⟨oc14, od14, .func (PySem.W.fnOf "_law_pen" "_law_pen" (defArgs s_l_pen) (defBody s_l_pen) (defScope s_l_pen) .none kV14 dc14 pm14 an14 cd14 ct14), sl14⟩) (c14 : PySem.W.codeIn K cd14 "_law_pen" = true) (k14 : PySem.W.keepIn K (.ref f14) = true)
    (a15 : PySem.W.nsIn K mainGlobals "_law_take" = some (some (.ref f15))) (l15 : K.lookup f15 = some ⟨oc15, od15, .func (PySem.W.fnOf "_law_take" "_law_take" (defArgs s_l_take) (defBody s_l_take) (defScope s_l_take) .none kV15 dc15 pm15 an15 cd15 ct15), sl15⟩) (c15 : PySem.W.codeIn K cd15 "_law_take" = true) (k15 : PySem.W.keepIn K (.ref f15) = true)
    (a16 : PySem.W.nsIn K mainGlobals "_law_moved" = some (some (.ref f16))) (l16 : K.lookup f16 = some ⟨oc16, od16, .func (PySem.W.fnOf "_law_moved" "_law_moved" (defArgs s_l_moved) (defBody s_l_moved) (defScope s_l_moved) .none kV16 dc16 pm16 an16 cd16 ct16), sl16⟩) (c16 : PySem.W.codeIn K cd16 "_law_moved" = true) (k16 : PySem.W.keepIn K (.ref f16) = true)
    (a17 : PySem.W.nsIn K mainGlobals "_law_come" = some (some (.ref f17))) (l17 : K.lookup f17 = some ⟨oc17, od17, .func (PySem.W.fnOf "_law_come" "_law_come" (defArgs s_l_come) (defBody s_l_come) (defScope s_l_come) .none kV17 dc17 pm17 an17 cd17 ct17), sl17⟩) (c17 : PySem.W.codeIn K cd17 "_law_come" = true) (k17 : PySem.W.keepIn K (.ref f17) = true)
    (a18 : PySem.W.nsIn K mainGlobals "_law_odd" = some (some (.ref f18))) (l18 : K.lookup f18 = some ⟨oc18, od18, .func (PySem.W.fnOf "_law_odd" "_law_odd" (defArgs s_l_odd) (defBody s_l_odd) (defScope s_l_odd) .none kV18 dc18 pm18 an18 cd18 ct18), sl18⟩) (c18 : PySem.W.codeIn K cd18 "_law_odd" = true) (k18 : PySem.W.keepIn K (.ref f18) = true)
    (a19 : PySem.W.nsIn K mainGlobals "_law_like" = some (some (.ref f19))) (l19 : K.lookup f19 = some ⟨oc19, od19, .func (PySem.W.fnOf "_law_like" "_law_like" (defArgs s_l_like) (defBody s_l_like) (defScope s_l_like) .none kV19 dc19 pm19 an19 cd19 ct19), sl19⟩) (c19 : PySem.W.codeIn K cd19 "_law_like" = true) (k19 : PySem.W.keepIn K (.ref f19) = true)
    (a20 : PySem.W.nsIn K mainGlobals "_law_is_new" = some (some (.ref f20))) (l20 : K.lookup f20 = some ⟨oc20, od20, .func (PySem.W.fnOf "_law_is_new" "_law_is_new" (defArgs s_l_is_new) (defBody s_l_is_new) (defScope s_l_is_new) .none kV20 dc20 pm20 an20 cd20 ct20), sl20⟩) (c20 : PySem.W.codeIn K cd20 "_law_is_new" = true) (k20 : PySem.W.keepIn K (.ref f20) = true)
    (a21 : PySem.W.nsIn K mainGlobals "_law_shift" = some (some (.ref f21))) (l21 : K.lookup f21 = some ⟨oc21, od21, .func (PySem.W.fnOf "_law_shift" "_law_shift" (defArgs s_l_shift) (defBody s_l_shift) (defScope s_l_shift) .none kV21 dc21 pm21 an21 cd21 ct21), sl21⟩) (c21 : PySem.W.codeIn K cd21 "_law_shift" = true) (k21 : PySem.W.keepIn K (.ref f21) = true)
    (a22 : PySem.W.nsIn K mainGlobals "_law_deed" = some (some (.ref f22))) (l22 : K.lookup f22 = some ⟨oc22, od22, .func (PySem.W.fnOf "_law_deed" "_law_deed" (defArgs s_l_deed) (defBody s_l_deed) (defScope s_l_deed) .none kV22 dc22 pm22 an22 cd22 ct22), sl22⟩) (c22 : PySem.W.codeIn K cd22 "_law_deed" = true) (k22 : PySem.W.keepIn K (.ref f22) = true)
    (a23 : PySem.W.nsIn K mainGlobals "_law_built" = some (some (.ref f23))) (l23 : K.lookup f23 = some ⟨oc23, od23, .func (PySem.W.fnOf "_law_built" "_law_built" (defArgs s_l_built) (defBody s_l_built) (defScope s_l_built) .none kV23 dc23 pm23 an23 cd23 ct23), sl23⟩) (c23 : PySem.W.codeIn K cd23 "_law_built" = true) (k23 : PySem.W.keepIn K (.ref f23) = true)
    (a24 : PySem.W.nsIn K mainGlobals "_law_bent" = some (some (.ref f24))) (l24 : K.lookup f24 = some ⟨oc24, od24, .func (PySem.W.fnOf "_law_bent" "_law_bent" (defArgs s_l_bent) (defBody s_l_bent) (defScope s_l_bent) .none kV24 dc24 pm24 an24 cd24 ct24), sl24⟩) (c24 : PySem.W.codeIn K cd24 "_law_bent" = true) (k24 : PySem.W.keepIn K (.ref f24) = true)
    (a25 : PySem.W.nsIn K mainGlobals "_law_any" = some (some (.ref f25))) (l25 : K.lookup f25 = some ⟨oc25, od25, .func (PySem.W.fnOf "_law_any" "_law_any" (defArgs s_l_any) (defBody s_l_any) (defScope s_l_any) .none kV25 dc25 pm25 an25 cd25 ct25), sl25⟩) (c25 : PySem.W.codeIn K cd25 "_law_any" = true) (k25 : PySem.W.keepIn K (.ref f25) = true)
    (a26 : PySem.W.nsIn K mainGlobals "_law_due" = some (some (.ref f26))) (l26 : K.lookup f26 = some ⟨oc26, od26, .func (PySem.W.fnOf "_law_due" "_law_due" (defArgs s_l_due) (defBody s_l_due) (defScope s_l_due) .none kV26 dc26 pm26 an26 cd26 ct26), sl26⟩) (c26 : PySem.W.codeIn K cd26 "_law_due" = true) (k26 : PySem.W.keepIn K (.ref f26) = true)
    (a27 : PySem.W.nsIn K mainGlobals "law" = some (some (.ref f27))) (l27 : K.lookup f27 = some ⟨oc27, od27, .func (PySem.W.fnOf "law" "law" (defArgs s_law) (defBody s_law) (defScope s_law) .none kV27 dc27 pm27 an27 cd27 ct27), sl27⟩) (c27 : PySem.W.codeIn K cd27 "law" = true) (k27 : PySem.W.keepIn K (.ref f27) = true)
    (z1 : PySem.W.nsIn K mainGlobals "abs" = some none)
    (z2 : PySem.W.nsIn K mainGlobals "all" = some none)
    (z3 : PySem.W.nsIn K mainGlobals "any" = some none)
    (z4 : PySem.W.nsIn K mainGlobals "bool" = some none)
    (z5 : PySem.W.nsIn K mainGlobals "enumerate" = some none)
    (z6 : PySem.W.nsIn K mainGlobals "int" = some none)
    (z7 : PySem.W.nsIn K mainGlobals "isinstance" = some none)
    (z8 : PySem.W.nsIn K mainGlobals "len" = some none)
    (z9 : PySem.W.nsIn K mainGlobals "list" = some none)
    (z10 : PySem.W.nsIn K mainGlobals "max" = some none)
    (z11 : PySem.W.nsIn K mainGlobals "min" = some none)
    (z12 : PySem.W.nsIn K mainGlobals "range" = some none)
    (z13 : PySem.W.nsIn K mainGlobals "reversed" = some none)
    (z14 : PySem.W.nsIn K mainGlobals "set" = some none)
    (z15 : PySem.W.nsIn K mainGlobals "tuple" = some none)
    (z16 : PySem.W.nsIn K mainGlobals "zip" = some none)
    : ∃ fd : FuncData, (∀ (s : Shared) (v : Value), BindsTo s fd ⟨[v], []⟩ [("_law_script", v)]) ∧ ∀ base : Heap, K.In base → base.Ns mainGlobals mg → FnOk l.prog w K mg base CX0 20 fa fd ["_law_script"] (spLaw K) := by
  have e := hfa.symm.trans (PySem.W.mg_of X G a27)
  cases e
  have F1 := fun_mk (st := s_core) l1 c1 k1
  have b1 := F1.binds (ps := ["number"]) fun _ _ _ _ _ _ us hl => by obtain ⟨a0_, rfl⟩ := ln1 (us := us) hl; rfl
  have F2 := fun_mk (st := s_shifted) l2 c2 k2
  have b2 := F2.binds (ps := ["number", "shift"]) fun _ _ _ _ _ _ us hl => by obtain ⟨a0_, a1_, rfl⟩ := ln2 (us := us) hl; rfl
  have F3 := fun_mk (st := s_shifted_row) l3 c3 k3
  have b3 := F3.binds (ps := ["row", "shift"]) fun _ _ _ _ _ _ us hl => by obtain ⟨a0_, a1_, rfl⟩ := ln2 (us := us) hl; rfl
  have F4 := fun_mk (st := s_input_rows) l4 c4 k4
  have b4 := F4.binds (ps := ["ins"]) fun _ _ _ _ _ _ us hl => by obtain ⟨a0_, rfl⟩ := ln1 (us := us) hl; rfl
  have F5 := fun_mk (st := s_input_row) l5 c5 k5
  have b5 := F5.binds (ps := ["ins", "thing"]) fun _ _ _ _ _ _ us hl => by obtain ⟨a0_, a1_, rfl⟩ := ln2 (us := us) hl; rfl
  have F6 := fun_mk (st := s_deed_row) l6 c6 k6
  have b6 := F6.binds (ps := ["deed", "rows"]) fun _ _ _ _ _ _ us hl => by obtain ⟨a0_, a1_, rfl⟩ := ln2 (us := us) hl; rfl
  have F7 := fun_mk (st := s_second_sign) l7 c7 k7
  have b7 := F7.binds (ps := ["deed"]) fun _ _ _ _ _ _ us hl => by obtain ⟨a0_, rfl⟩ := ln1 (us := us) hl; rfl
  have F8 := fun_mk (st := s_numbers) l8 c8 k8
  have b8 := F8.binds (ps := ["web"]) fun _ _ _ _ _ _ us hl => by obtain ⟨a0_, rfl⟩ := ln1 (us := us) hl; rfl
  have F9 := fun_mk (st := s_deed_arrows) l9 c9 k9
  have b9 := F9.binds (ps := ["web"]) fun _ _ _ _ _ _ us hl => by obtain ⟨a0_, rfl⟩ := ln1 (us := us) hl; rfl
  have F10 := fun_mk (st := s_thing_count) l10 c10 k10
  have b10 := F10.binds (ps := ["web"]) fun _ _ _ _ _ _ us hl => by obtain ⟨a0_, rfl⟩ := ln1 (us := us) hl; rfl
  have F11 := fun_mk (st := s_used) l11 c11 k11
  have b11 := F11.binds (ps := ["web"]) fun _ _ _ _ _ _ us hl => by obtain ⟨a0_, rfl⟩ := ln1 (us := us) hl; rfl
  have F12 := fun_mk (st := s_form_of) l12 c12 k12
  have b12 := F12.binds (ps := ["row"]) fun _ _ _ _ _ _ us hl => by obtain ⟨a0_, rfl⟩ := ln1 (us := us) hl; rfl
  have F13 := fun_mk (st := s_is_bare) l13 c13 k13
  have b13 := F13.binds (ps := ["web"]) fun _ _ _ _ _ _ us hl => by obtain ⟨a0_, rfl⟩ := ln1 (us := us) hl; rfl
  have F14 := fun_mk (st := s_l_pen) l14 c14 k14
  have b14 := F14.binds (ps := ["_law_script"]) fun _ _ _ _ _ _ us hl => by obtain ⟨a0_, rfl⟩ := ln1 (us := us) hl; rfl
  have F15 := fun_mk (st := s_l_take) l15 c15 k15
  have b15 := F15.binds (ps := ["_law_pen_here", "_law_many"]) fun _ _ _ _ _ _ us hl => by obtain ⟨a0_, a1_, rfl⟩ := ln2 (us := us) hl; rfl
  have F16 := fun_mk (st := s_l_moved) l16 c16 k16
  have b16 := F16.binds (ps := ["_law_line", "_law_shift_here"]) fun _ _ _ _ _ _ us hl => by obtain ⟨a0_, a1_, rfl⟩ := ln2 (us := us) hl; rfl
  have F17 := fun_mk (st := s_l_come) l17 c17 k17
  have b17 := F17.binds (ps := ["_law_things_by", "_law_deed_here"]) fun _ _ _ _ _ _ us hl => by obtain ⟨a0_, a1_, rfl⟩ := ln2 (us := us) hl; rfl
  have F18 := fun_mk (st := s_l_odd) l18 c18 k18
  have b18 := F18.binds (ps := ["_law_number"]) fun _ _ _ _ _ _ us hl => by obtain ⟨a0_, rfl⟩ := ln1 (us := us) hl; rfl
  have F19 := fun_mk (st := s_l_like) l19 c19 k19
  have b19 := F19.binds (ps := ["_law_one", "_law_other"]) fun _ _ _ _ _ _ us hl => by obtain ⟨a0_, a1_, rfl⟩ := ln2 (us := us) hl; rfl
  have F20 := fun_mk (st := s_l_is_new) l20 c20 k20
  have b20 := F20.binds (ps := ["_law_things_by", "_law_line"]) fun _ _ _ _ _ _ us hl => by obtain ⟨a0_, a1_, rfl⟩ := ln2 (us := us) hl; rfl
  have F21 := fun_mk (st := s_l_shift) l21 c21 k21
  have b21 := F21.binds (ps := ["_law_pen_here", "_law_line"]) fun _ _ _ _ _ _ us hl => by obtain ⟨a0_, a1_, rfl⟩ := ln2 (us := us) hl; rfl
  have F22 := fun_mk (st := s_l_deed) l22 c22 k22
  have b22 := F22.binds (ps := ["_law_pen_here", "_law_things_by", "_law_first"]) fun _ _ _ _ _ _ us hl => by obtain ⟨a0_, a1_, a2_, rfl⟩ := ln3 (us := us) hl; rfl
  have F23 := fun_mk (st := s_l_built) l23 c23 k23
  have b23 := F23.binds (ps := ["_law_pen_here"]) fun _ _ _ _ _ _ us hl => by obtain ⟨a0_, rfl⟩ := ln1 (us := us) hl; rfl
  have F24 := fun_mk (st := s_l_bent) l24 c24 k24
  have b24 := F24.binds (ps := ["_law_pen_here", "_law_web", "_law_things_by"]) fun _ _ _ _ _ _ us hl => by obtain ⟨a0_, a1_, a2_, rfl⟩ := ln3 (us := us) hl; rfl
  have F25 := fun_mk (st := s_l_any) l25 c25 k25
  have b25 := F25.binds (ps := ["_law_pen_here"]) fun _ _ _ _ _ _ us hl => by obtain ⟨a0_, rfl⟩ := ln1 (us := us) hl; rfl
  have F26 := fun_mk (st := s_l_due) l26 c26 k26
  have b26 := F26.binds (ps := ["_law_web"]) fun _ _ _ _ _ _ us hl => by obtain ⟨a0_, rfl⟩ := ln1 (us := us) hl; rfl
  have F27 := fun_mk (st := s_law) l27 c27 k27
  have b27 := F27.binds (ps := ["_law_script"]) fun _ _ _ _ _ _ us hl => by obtain ⟨a0_, rfl⟩ := ln1 (us := us) hl; rfl
  have T : Txt K mg := ⟨⟨PySem.W.mg_none_of X G z1, PySem.W.mg_none_of X G z2, PySem.W.mg_none_of X G z3, PySem.W.mg_none_of X G z4, PySem.W.mg_none_of X G z5, PySem.W.mg_none_of X G z6, PySem.W.mg_none_of X G z7, PySem.W.mg_none_of X G z8, PySem.W.mg_none_of X G z9, PySem.W.mg_none_of X G z10, PySem.W.mg_none_of X G z11, PySem.W.mg_none_of X G z12, PySem.W.mg_none_of X G z13, PySem.W.mg_none_of X G z14, PySem.W.mg_none_of X G z15, PySem.W.mg_none_of X G z16⟩, ⟨_, _, F1, PySem.W.mg_of X G a1, b1⟩, ⟨_, _, F2, PySem.W.mg_of X G a2, b2⟩, ⟨_, _, F3, PySem.W.mg_of X G a3, b3⟩, ⟨_, _, F4, PySem.W.mg_of X G a4, b4⟩, ⟨_, _, F5, PySem.W.mg_of X G a5, b5⟩, ⟨_, _, F6, PySem.W.mg_of X G a6, b6⟩, ⟨_, _, F7, PySem.W.mg_of X G a7, b7⟩, ⟨_, _, F8, PySem.W.mg_of X G a8, b8⟩, ⟨_, _, F9, PySem.W.mg_of X G a9, b9⟩, ⟨_, _, F10, PySem.W.mg_of X G a10, b10⟩, ⟨_, _, F11, PySem.W.mg_of X G a11, b11⟩, ⟨_, _, F12, PySem.W.mg_of X G a12, b12⟩, ⟨_, _, F13, PySem.W.mg_of X G a13, b13⟩, ⟨_, _, F14, PySem.W.mg_of X G a14, b14⟩, ⟨_, _, F15, PySem.W.mg_of X G a15, b15⟩, ⟨_, _, F16, PySem.W.mg_of X G a16, b16⟩, ⟨_, _, F17, PySem.W.mg_of X G a17, b17⟩, ⟨_, _, F18, PySem.W.mg_of X G a18, b18⟩, ⟨_, _, F19, PySem.W.mg_of X G a19, b19⟩, ⟨_, _, F20, PySem.W.mg_of X G a20, b20⟩, ⟨_, _, F21, PySem.W.mg_of X G a21, b21⟩, ⟨_, _, F22, PySem.W.mg_of X G a22, b22⟩, ⟨_, _, F23, PySem.W.mg_of X G a23, b23⟩, ⟨_, _, F24, PySem.W.mg_of X G a24, b24⟩, ⟨_, _, F25, PySem.W.mg_of X G a25, b25⟩, ⟨_, _, F26, PySem.W.mg_of X G a26, b26⟩, ⟨_, _, F27, PySem.W.mg_of X G a27, b27⟩⟩
  refine ⟨PySem.W.fnOf "law" "law" (defArgs s_law) (defBody s_law) (defScope s_law) .none kV27 dc27 pm27 an27 cd27 ct27, fun s v => .of_eq rfl, fun base _ _ => ?_⟩
  exact ok_law T F27
theorem walk {l : PySem.W.OpenLaw} {q : Program} {loose : List Str} {XP : (Str → Option Value) → Heap → Prop} {YP : World → Heap → Prop} {d : DefRec} {K : Params → PySem.W.Frag} (hn : l.most = some 63) (hdf : d.params.defaults = [])
    (hY : ∀ (w : World) (h : Heap), YP w h → (K w.params).In h)
    (F : ∀ (w : World) (mg : Str → Option Value) (fa : Addr) (h : Heap), (K w.params).In h → h.Ns mainGlobals mg → mg d.name = some (.ref fa) →
      ∃ fd : FuncData, (∀ (s : Shared) (u : Value), BindsTo s fd ⟨[u], []⟩ [("_law_script", u)]) ∧ ∀ base : Heap, (K w.params).In base → base.Ns mainGlobals mg → FnOk l.prog w (K w.params) mg base CX0 20 fa fd ["_law_script"] (spLaw (K w.params))) :
    PySem.W.WalkO q loose XP YP l.row.toRowW d [] (fun f vs => PySem.call f vs) :=
  L2.walk_of (n := 63) (k := 20) (x := "_law_script") (CX := fun _ => CX0) (sp := fun w => spLaw (K w.params)) hn (by decide) hdf ⟨rfl, by decide, by decide⟩ hY F (fun _ _ a ns hl hO hS => ⟨a, ns, rfl, scr_of hO hS, hl, fun _ => rfl⟩) fun _ _ _ _ _ z => z
end Law
def PySem.W.Fast.tw1215692712524278432 : Unit := ()
def PySem.W.Fast.tw9013563251655558118 : Unit := ()
def PySem.W.Fast.tw17459062724504189643 : Unit := ()
def PySem.W.Fast.tw12304104277377452109 : Unit := ()
def PySem.W.Fast.tw1851719567445483423 : Unit := ()
def PySem.W.Fast.tw9047406440765709846 : Unit := ()
def PySem.W.Fast.tw424860882533761849 : Unit := ()
def PySem.W.Fast.tw2047603126562538974 : Unit := ()
def PySem.W.Fast.tw14878273311315264745 : Unit := ()
def PySem.W.Fast.tw8396571560018005458 : Unit := ()
def PySem.W.Fast.tw12545890611753617816 : Unit := ()
def PySem.W.Fast.tw17231343757680846070 : Unit := ()
def PySem.W.Fast.tw4686283839516703319 : Unit := ()
def PySem.W.Fast.tw8438598091018401635 : Unit := ()
open PySem PySem.W PyProof.Rows
set_option maxRecDepth 100000 in
set_option maxHeartbeats 0 in
theorem PySem.Challenge.cw_shiftsums_k28_which_webs_are_bare_holds : PySem.Challenge.rw_shiftsums_k28_which_webs_are_bare.Holds := by
  w_on; o_law; k_head; (case hw => w_witness2)
  k_fill
  refine Law.walk (l := PySem.Challenge.rw_shiftsums_k28_which_webs_are_bare) rfl rfl (fun w h Y => PySem.W.kIn_of Y) ?F
  case F =>
    intro w mg fa h KX G hmg
    refine' Law.all_mk KX G hmg ?a1 ?l1 ?c1 ?k1 ?a2 ?l2 ?c2 ?k2 ?a3 ?l3 ?c3 ?k3 ?a4 ?l4 ?c4 ?k4 ?a5 ?l5 ?c5 ?k5 ?a6 ?l6 ?c6 ?k6 ?a7 ?l7 ?c7 ?k7 ?a8 ?l8 ?c8 ?k8 ?a9 ?l9 ?c9 ?k9 ?a10 ?l10 ?c10 ?k10 ?a11 ?l11 ?c11 ?k11 ?a12 ?l12 ?c12 ?k12 ?a13 ?l13 ?c13 ?k13 ?a14 ?l14 ?c14 ?k14 ?a15 ?l15 ?c15 ?k15 ?a16 ?l16 ?c16 ?k16 ?a17 ?l17 ?c17 ?k17 ?a18 ?l18 ?c18 ?k18 ?a19 ?l19 ?c19 ?k19 ?a20 ?l20 ?c20 ?k20 ?a21 ?l21 ?c21 ?k21 ?a22 ?l22 ?c22 ?k22 ?a23 ?l23 ?c23 ?k23 ?a24 ?l24 ?c24 ?k24 ?a25 ?l25 ?c25 ?k25 ?a26 ?l26 ?c26 ?k26 ?a27 ?l27 ?c27 ?k27 ?z1 ?z2 ?z3 ?z4 ?z5 ?z6 ?z7 ?z8 ?z9 ?z10 ?z11 ?z12 ?z13 ?z14 ?z15 ?z16
    (case a1 => k_is); (case l1 => k_is); (case c1 => k_is); (case k1 => k_is)
    (case a2 => k_is); (case l2 => k_is); (case c2 => k_is); (case k2 => k_is)
    (case a3 => k_is); (case l3 => k_is); (case c3 => k_is); (case k3 => k_is)
    (case a4 => k_is); (case l4 => k_is); (case c4 => k_is); (case k4 => k_is)
    (case a5 => k_is); (case l5 => k_is); (case c5 => k_is); (case k5 => k_is)
    (case a6 => k_is); (case l6 => k_is); (case c6 => k_is); (case k6 => k_is)
    (case a7 => k_is); (case l7 => k_is); (case c7 => k_is); (case k7 => k_is)
    (case a8 => k_is); (case l8 => k_is); (case c8 => k_is); (case k8 => k_is)
    (case a9 => k_is); (case l9 => k_is); (case c9 => k_is); (case k9 => k_is)
    (case a10 => k_is); (case l10 => k_is); (case c10 => k_is); (case k10 => k_is)
    (case a11 => k_is); (case l11 => k_is); (case c11 => k_is); (case k11 => k_is)
    (case a12 => k_is); (case l12 => k_is); (case c12 => k_is); (case k12 => k_is)
    (case a13 => k_is); (case l13 => k_is); (case c13 => k_is); (case k13 => k_is)
    (case a14 => k_is); (case l14 => k_is); (case c14 => k_is); (case k14 => k_is)
    (case a15 => k_is); (case l15 => k_is); (case c15 => k_is); (case k15 => k_is)
    (case a16 => k_is); (case l16 => k_is); (case c16 => k_is); (case k16 => k_is)
    (case a17 => k_is); (case l17 => k_is); (case c17 => k_is); (case k17 => k_is)
    (case a18 => k_is); (case l18 => k_is); (case c18 => k_is); (case k18 => k_is)
    (case a19 => k_is); (case l19 => k_is); (case c19 => k_is); (case k19 => k_is)
    (case a20 => k_is); (case l20 => k_is); (case c20 => k_is); (case k20 => k_is)
    (case a21 => k_is); (case l21 => k_is); (case c21 => k_is); (case k21 => k_is)
    (case a22 => k_is); (case l22 => k_is); (case c22 => k_is); (case k22 => k_is)
    (case a23 => k_is); (case l23 => k_is); (case c23 => k_is); (case k23 => k_is)
    (case a24 => k_is); (case l24 => k_is); (case c24 => k_is); (case k24 => k_is)
    (case a25 => k_is); (case l25 => k_is); (case c25 => k_is); (case k25 => k_is)
    (case a26 => k_is); (case l26 => k_is); (case c26 => k_is); (case k26 => k_is)
    (case a27 => k_is); (case l27 => k_is); (case c27 => k_is); (case k27 => k_is)
    (case z1 => k_is); (case z2 => k_is); (case z3 => k_is); (case z4 => k_is)
    (case z5 => k_is); (case z6 => k_is); (case z7 => k_is); (case z8 => k_is)
    (case z9 => k_is); (case z10 => k_is); (case z11 => k_is); (case z12 => k_is)
    (case z13 => k_is); (case z14 => k_is); (case z15 => k_is); (case z16 => k_is)
end
