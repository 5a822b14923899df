import PyProof.Rows.All
import Wide.All
import OpenK.AllK
import Wide.FinOn
import Lean
import PyProof.EqAt
import PyProof.EqKinds
import PyProof.TupleCall
import PyProof.NeKinds
import KE.KMinBuiltin
import PyProof.Rows.CallKwBuiltin
import KE.KDictList
import PyProof.ZipIter
import PyProof.EnumFor
import PyProof.EnumMake
import PyProof.EnumStmt
import PyProof.Rows.Range3
import KE.KItemsList
import PyProof.ListRange
import KE.KIsAll
import PyProof.TupleIter
import PyProof.StationsW
import OpenK.KOwn
import PyProof.RulesDel
import PyProof.ExcArgsOwn
import PyProof.ExcAttrAll.ValueError
import KE.IntBitsLaws
import PyProof.IsRules
import PyProof.SetKind
import PyProof.Rows.SetFrom
import PyProof.CollectWalk
import PyProof.ListNew
import PyProof.Seq
import KE.KSortedM
import PyProof.InstStoreFacts
import PyProof.ExcInit
import KE.KSortTup
import PyProof.AttrMissSeq
import KE.KEqDict
import PySem.Challenge.RW_shiftsums_k03_whole_numbers
section
set_option Elab.async false
set_option linter.all false
set_option maxRecDepth 100000
namespace L2
open PySem PySem.Spec PyProof.Rows
abbrev Key := Sum Int Str
def keyIs : Key → Value → Bool
  | .inl k, v => Value.isInt k v
  | .inr x, v => Value.isStrOf x v
def keyH (w : World) : Key → Int
  | .inl k => hashInt k
  | .inr x => hashStr w x
theorem keyIs_shape : ∀ {k : Key} {v : Value}, keyIs k v = true → (∃ i t, k = Sum.inl i ∧ v = Value.int i t) ∨ (∃ x t, k = Sum.inr x ∧ v = Value.str x t)
  | .inl i, v, h => by
    obtain ⟨t, e⟩ := Value.isInt_shape (k := i) (v := v) h
    exact .inl ⟨i, t, rfl, e⟩
  | .inr x, v, h => by
    obtain ⟨t, e⟩ := Value.isStrOf_shape (x := x) (v := v) h
    exact .inr ⟨x, t, rfl, e⟩
theorem keyIs_int (i : Int) (t : Tok) : keyIs (.inl i) (.int i t) = true := by simp [keyIs, Value.isInt]
theorem keyIs_str (x : Str) (t : Tok) : keyIs (.inr x) (.str x t) = true := by simp [keyIs, Value.isStrOf]
theorem key_ll (a b : Int) : decide ((Sum.inl a : Key) = Sum.inl b) = (a == b) := by
  by_cases e : a = b
  · subst e; simp
  · have h : ¬ (Sum.inl a : Key) = Sum.inl b := fun q => e (Sum.inl.inj q)
    rw [decide_eq_false h]
    exact (beq_eq_false_iff_ne.mpr e).symm
theorem key_rr (a b : Str) : decide ((Sum.inr a : Key) = Sum.inr b) = decide (a = b) := by
  by_cases e : a = b
  · subst e; simp
  · have h : ¬ (Sum.inr a : Key) = Sum.inr b := fun q => e (Sum.inr.inj q)
    rw [decide_eq_false h, decide_eq_false e]
theorem key_lr (a : Int) (b : Str) : decide ((Sum.inl a : Key) = Sum.inr b) = false := decide_eq_false (fun q => nomatch q)
theorem key_rl (a : Str) (b : Int) : decide ((Sum.inr a : Key) = Sum.inl b) = false := decide_eq_false (fun q => nomatch q)
def mixKind (prog : Program) (w : World) : PySem.KeyKind prog w Key where
  is := keyIs
  hash := keyH w
  inj := fun v a b ha hb => by
    rcases keyIs_shape ha with ⟨i, t, rfl, rfl⟩ | ⟨x, t, rfl, rfl⟩
    · rcases keyIs_shape hb with ⟨j, u, rfl, e⟩ | ⟨y, u, rfl, e⟩
      · injection e with e1 _; rw [e1]
      · exact nomatch e
    · rcases keyIs_shape hb with ⟨j, u, rfl, e⟩ | ⟨y, u, rfl, e⟩
      · exact nomatch e
      · injection e with e1 _; rw [e1]
  byValue := fun k v h => by
    rcases keyIs_shape h with ⟨i, t, rfl, rfl⟩ | ⟨x, t, rfl, rfl⟩ <;> rfl
  pyHash := fun hv h => by
    rcases keyIs_shape hv with ⟨i, t, rfl, rfl⟩ | ⟨x, t, rfl, rfl⟩
    · exact wpAny_pyHash_int h
    · exact wpAny_pyHash_str h
  eqBool := fun hu hv h => by
    rcases keyIs_shape hu with ⟨i, t, rfl, rfl⟩ | ⟨x, t, rfl, rfl⟩
    · rcases keyIs_shape hv with ⟨j, u, rfl, rfl⟩ | ⟨y, u, rfl, rfl⟩
      · rw [key_ll] at h; exact wpAny_eqBool_int h
      · rw [key_lr] at h; exact SeqAt.EqAt.int_str i t y u _ _ _ _ h
    · rcases keyIs_shape hv with ⟨j, u, rfl, rfl⟩ | ⟨y, u, rfl, rfl⟩
      · rw [key_rl] at h; exact SeqAt.EqAt.str_int x t j u _ _ _ _ h
      · rw [key_rr] at h; exact wpAny_eqBool_str h
  «strs» := fun k x t v h => by
    rcases keyIs_shape h with ⟨i, u, rfl, e⟩ | ⟨y, u, rfl, e⟩
    · exact nomatch e
    · injection e with e1 _
      subst e1
      cases v <;> rfl
theorem mixKind_int (prog : Program) (w : World) (i : Int) (t : Tok) : (mixKind prog w).is (.inl i) (.int i t) = true := keyIs_int i t
theorem mixKind_str (prog : Program) (w : World) (x : Str) (t : Tok) : (mixKind prog w).is (.inr x) (.str x t) = true := keyIs_str x t
end L2
namespace L2
open PySem PySem.Spec PyProof.Rows
inductive V where
  | non | bl (b : Bool) | int (i : Int) | str (x : Str) | byt (b : Array UInt8) | flt (b : UInt64) | ref (a : Addr) | ty (n : String)
  deriving DecidableEq
def RelV : V → Value → Prop
  | .non, u => u = Value.none
  | .bl b, u => u = Value.bool b
  | .int i, u => ∃ t, u = Value.int i t
  | .str x, u => ∃ t, u = Value.str x t
  | .byt b, u => ∃ t, u = Value.bytes b t
  | .flt b, u => ∃ t, u = Value.float b t
  | .ref a, u => u = Value.ref a
  | .ty n, u => u = Value.type n
abbrev Vals : List V → List Value → Prop := Paired RelV
theorem Vals.length {xs : List V} {us : List Value} (r : Vals xs us) : xs.length = us.length := Paired.length r
theorem Vals.get : ∀ {xs : List V} {us : List Value} {i : Nat} {x : V}, Vals xs us → xs[i]? = some x → ∃ u, us[i]? = some u ∧ RelV x u
  | _, _, _, _, .nil, e => by simp at e
  | _, _, 0, _, .cons r _, e => by simp at e; subst e; exact ⟨_, rfl, r⟩
  | _, _, i + 1, x, .cons _ t, e => by
    obtain ⟨u, h1, h2⟩ := Vals.get (i := i) (x := x) t (by simpa using e)
    exact ⟨u, by simpa using h1, h2⟩
theorem Vals.set {x : V} {u : Value} (r : RelV x u) : ∀ {xs : List V} {us : List Value} (i : Nat), Vals xs us → Vals (xs.set i x) (us.set i u)
  | _, _, _, .nil => .nil
  | _, _, 0, .cons _ t => .cons r t
  | _, _, i + 1, .cons q t => .cons q (Vals.set r i t)
theorem Vals.append : ∀ {xs ys : List V} {us ws : List Value}, Vals xs us → Vals ys ws → Vals (xs ++ ys) (us ++ ws)
  | _, _, _, _, .nil, s => s
  | _, _, _, _, .cons r t, s => .cons r (Vals.append t s)
theorem Vals.take : ∀ {xs : List V} {us : List Value} (n : Nat), Vals xs us → Vals (xs.take n) (us.take n)
  | _, _, 0, _ => .nil
  | _, _, _ + 1, .nil => .nil
  | _, _, n + 1, .cons r t => .cons r (Vals.take n t)
theorem Vals.drop : ∀ {xs : List V} {us : List Value} (n : Nat), Vals xs us → Vals (xs.drop n) (us.drop n)
  | _, _, 0, r => r
  | _, _, _ + 1, .nil => .nil
  | _, _, n + 1, .cons _ t => Vals.drop n t
def RelO : Option V → Option Value → Prop
  | some v, some u => RelV v u
  | none, none => True
  | _, _ => False
def KV {κ : Type} : List (κ × V) → List (κ × Value) → Prop := Paired fun (p : κ × V) (q : κ × Value) => p.1 = q.1 ∧ RelV p.2 q.2
def kV : Key → V
  | .inl i => .int i
  | .inr x => .str x
inductive HO where
  | lst (xs : List V)
  | tup (xs : List V)
  | dK (kvs : List (Key × V)) | dT (kvs : List (List Key × V))
  | set (S : Int → Bool) (n : Nat)
  | ins (C dx : Addr) (fs : List (Str × V))
  | own (x : Addr)
  | xd (fs : List (Str × V))
  | met (f x : Addr)
  | rng (lo hi : Int)
  | frz (o : Obj) (u : HO)
  | tbl (ps : Array Value)
  | ext (φ : Heap → Prop)
abbrev Hp := Addr → Option HO
def upd (H : Hp) (a : Addr) (o : HO) : Hp := fun b => if b = a then some o else H b
theorem upd_same {H : Hp} {a : Addr} {o : HO} : upd H a o a = some o := by unfold upd; rw [if_pos rfl]
theorem upd_ne {H : Hp} {a b : Addr} {o : HO} (h : b ≠ a) : upd H a o b = H b := by unfold upd; rw [if_neg h]
theorem upd_upd {H : Hp} {a : Addr} {o u : HO} : upd (upd H a o) a u = upd H a u := by
  funext b; unfold upd; split <;> rfl
theorem ne_of {H : Hp} {a b : Addr} {o u : HO} (h : H a = some o) (h' : H b = some u) (d : o ≠ u) : a ≠ b := by
  intro e; subst e; rw [h] at h'; exact d (Option.some.inj h')
theorem ne_of_none {H : Hp} {a b : Addr} {o : HO} (h : H a = some o) (h' : H b = none) : a ≠ b := by
  intro e; subst e; rw [h] at h'; cases h'
section
variable (P : Program) (w : World)
def ObjOk (H : Hp) (h : Heap) (a : Addr) : HO → Prop
  | .lst xs => xs.length ≤ sizeLine ∧ ∃ (its : List Value) (n : Nat), Vals xs its ∧ h.get? a = some { cls := .type "list", data := .seq its.toArray n }
  | .tup xs => xs.length ≤ sizeLine ∧ ∃ its : List Value, Vals xs its ∧ IsTup h a its.toArray
  | .dK kvs => kvs.length ≤ sizeLine ∧ (a == sysModules) = false ∧ ∃ vs, KV kvs vs ∧ h.DictOf (mixKind P w) a vs
  | .dT kvs => kvs.length ≤ sizeLine ∧ (a == sysModules) = false ∧ ∃ xs : List (List Key × Addr × Value),
      Paired (fun (p : List Key × V) (q : List Key × Addr × Value) => p.1 = q.1 ∧ H q.2.1 = some (.tup (p.1.map kV)) ∧ RelV p.2 q.2.2) kvs xs ∧
      ∃ o es ep, h.get? a = some o ∧ o.ExactDict ∧ o.data = .dict es ep ∧ es.toList = xs.map (entryOfKey (tupleKind (mixKind P w))) ∧ (xs.map (·.1)).Nodup
  | .set S n => h.SetOf (intKind P w) a S n
  | .ins C dx fs => H dx = some (.own a) ∧ fs.length ≤ 1000 ∧ dx ≠ a ∧ h.get? a = some (PySem.W.instObj C dx) ∧
      ∃ mA, h.Ns1 dx mA ∧ (∀ f, RelO (fs.lookup f) (mA f)) ∧ PySem.Within mA (fs.map (·.1))
  | .own _ => ∃ o, h.get? a = some o
  | .xd fs => ∃ mA, h.Ns1 a mA ∧ ∀ f, RelO (fs.lookup f) (mA f)
  | .rng lo hi => ∃ t u v, h.get? a = some { cls := .type "range", data := .fields #[.int lo t, .int hi u, .int 1 v] }
  | .frz o u => h.get? a = some o ∧ ObjOk H h a u
  | .tbl ps => h.get? a = some { cls := .none, data := .fields ps }
  | .met f x => h.get? a = some (PySem.W.methodObj (.ref f) (.ref x))
  | .ext φ => φ h ∧ (∃ o, h.get? a = some o) ∧ ∀ h1 h2 : Heap, φ h1 → (∀ o, h1.get? a = some o → h2.get? a = some o) → φ h2
def HOk (H : Hp) (h : Heap) : Prop := ∀ a o, H a = some o → ObjOk P w H h a o
end
section
variable {P : Program} {w : World} {H H' : Hp} {h h' : Heap} {a : Addr} {o : HO}
theorem ObjOk.lt (x : ObjOk P w H h a o) : a < h.objs.size := by
  cases o with
  | lst xs => obtain ⟨_, _, _, _, e⟩ := x; exact Heap.lt_size e
  | tup xs => obtain ⟨_, _, _, p⟩ := x; exact p.lt
  | dK kvs => obtain ⟨_, _, _, _, o, _, _, e, _⟩ := x; exact Heap.lt_size e
  | dT kvs => obtain ⟨_, _, _, _, o, _, _, e, _⟩ := x; exact Heap.lt_size e
  | set S n => obtain ⟨o, _, _, _, e, _⟩ := x; exact Heap.lt_size e
  | ins C dx fs => obtain ⟨_, _, _, e, _⟩ := x; exact Heap.lt_size e
  | own y => obtain ⟨_, e⟩ := x; exact Heap.lt_size e
  | xd fs => obtain ⟨_, ⟨_, _, _, e, _⟩, _⟩ := x; exact Heap.lt_size e
  | rng lo hi => obtain ⟨_, _, _, e⟩ := x; exact Heap.lt_size e
  | frz ob u => obtain ⟨e, _⟩ := x; exact Heap.lt_size e
  | tbl ps => exact Heap.lt_size (show h.get? a = some _ from x)
  | met f y => exact Heap.lt_size (show h.get? a = some _ from x)
  | ext φ => obtain ⟨_, ⟨_, e⟩, _⟩ := x; exact Heap.lt_size e
theorem Paired.mapP {α β : Type} {F G : α → β → Prop} : ∀ {l₁ : List α} {l₂ : List β}, Paired F l₁ l₂ → (∀ a b, F a b → G a b) → Paired G l₁ l₂
  | _, _, .nil, _ => .nil
  | _, _, .cons r t, f => .cons (f _ _ r) (Paired.mapP t f)
theorem ObjOk.stay (x : ObjOk P w H h a o) (k : ∀ b u, (b = a ∨ H b = some (.own a)) → h.get? b = some u → h'.get? b = some u)
    (ho : ∀ b, H b = some (.own a) → H' b = some (.own a)) (ht : ∀ b xs, H b = some (.tup xs) → H' b = some (.tup xs)) : ObjOk P w H' h' a o := by
  induction o with
  | lst xs => obtain ⟨z, its, n, r, e⟩ := x; exact ⟨z, its, n, r, k _ _ (.inl rfl) e⟩
  | tup xs => obtain ⟨z, its, r, ob, e, c⟩ := x; exact ⟨z, its, r, ob, k _ _ (.inl rfl) e, c⟩
  | dK kvs => obtain ⟨z, y, vs, r, ob, es, ep, e, c⟩ := x; exact ⟨z, y, vs, r, ob, es, ep, k _ _ (.inl rfl) e, c⟩
  | dT kvs =>
    obtain ⟨z, y, xs, r, ob, es, ep, e, c⟩ := x
    exact ⟨z, y, xs, Paired.mapP r fun p q z => ⟨z.1, ht _ _ z.2.1, z.2.2⟩, ob, es, ep, k _ _ (.inl rfl) e, c⟩
  | set S n => obtain ⟨ob, es, ep, t, e, c⟩ := x; exact ⟨ob, es, ep, t, k _ _ (.inl rfl) e, c⟩
  | ins C dx fs =>
    obtain ⟨d, z, ne, e, mA, ⟨od, es, ep, e2, c⟩, r⟩ := x
    exact ⟨ho _ d, z, ne, k _ _ (.inl rfl) e, mA, ⟨od, es, ep, k _ _ (.inr d) e2, c⟩, r⟩
  | own y => obtain ⟨ob, e⟩ := x; exact ⟨ob, k _ _ (.inl rfl) e⟩
  | xd fs => obtain ⟨mA, ⟨od, es, ep, e, c⟩, r⟩ := x; exact ⟨mA, ⟨od, es, ep, k _ _ (.inl rfl) e, c⟩, r⟩
  | rng lo hi => obtain ⟨t, u, v, e⟩ := x; exact ⟨t, u, v, k _ _ (.inl rfl) e⟩
  | frz ob u ih => obtain ⟨e, q⟩ := x; exact ⟨k _ _ (.inl rfl) e, ih q⟩
  | tbl ps =>
    have e : h.get? a = some { cls := .none, data := .fields ps } := x
    show h'.get? a = some { cls := .none, data := .fields ps }
    exact k a _ (.inl rfl) e
  | met f y =>
    have e : h.get? a = some (PySem.W.methodObj (.ref f) (.ref y)) := x
    show h'.get? a = some (PySem.W.methodObj (.ref f) (.ref y))
    exact k a _ (.inl rfl) e
  | ext φ => obtain ⟨p, ⟨o, e⟩, st⟩ := x; exact ⟨st _ _ p fun o q => k _ _ (.inl rfl) q, ⟨o, k _ _ (.inl rfl) e⟩, st⟩
theorem HOk.lt (x : HOk P w H h) (e : H a = some o) : a < h.objs.size := (x a o e).lt
theorem HOk.fresh (x : HOk P w H h) (e : h.objs.size ≤ a) : H a = none := by
  cases q : H a with
  | none => rfl
  | some u => exact absurd (Nat.lt_of_lt_of_le (x.lt q) e) (Nat.lt_irrefl _)
theorem HOk.kept (x : HOk P w H h) (k : ∀ b u, h.get? b = some u → h'.get? b = some u) : HOk P w H h' := fun a o e =>
  (x a o e).stay (fun b u _ q => k b u q) (fun _ q => q) fun _ _ q => q
theorem HOk.laid (x : HOk P w H h) (k : ∀ b u, h.get? b = some u → h'.get? b = some u) (hp : h.objs.size ≤ a) (new : ObjOk P w (upd H a o) h' a o) : HOk P w (upd H a o) h' := fun b u e => by
  have hn := x.fresh hp
  by_cases hb : b = a
  · subst hb; rw [upd_same] at e; cases e; exact new
  · rw [upd_ne hb] at e
    exact (x b u e).stay (fun c v _ q => k c v q) (fun c q => by rw [upd_ne (ne_of_none q hn)]; exact q) fun c xs q => by rw [upd_ne (ne_of_none q hn)]; exact q
end
def Rd (H : Hp) (a : Addr) (u : HO) : Prop := H a = some u ∨ ∃ o, H a = some (.frz o u)
theorem Rd.of {H : Hp} {a : Addr} {u : HO} (h : H a = some u) : Rd H a u := .inl h
theorem Rd.ok {P : Program} {w : World} {H : Hp} {h : Heap} {a : Addr} {u : HO} (r : Rd H a u) (x : HOk P w H h) : ObjOk P w H h a u := by
  rcases r with r | ⟨o, r⟩
  · exact x a u r
  · obtain ⟨_, q⟩ := x a _ r
    exact q
def Mut : Option HO → Prop
  | some (.lst _) => True
  | some (.dK _) => True
  | some (.dT _) => True
  | some (.set _ _) => True
  | some (.ins _ _ _) => True
  | some (.ext _) => True
  | _ => False
section
variable {P : Program} {w : World} {H : Hp} {h h' : Heap} {x e : Addr} {o' : HO}
theorem HOk.write (ok : HOk P w H h) (mu : Mut (H x)) (he : e = x ∨ H e = some (.own x)) (k : ∀ b u, b ≠ e → h.get? b = some u → h'.get? b = some u) (heo : ∃ u, h'.get? e = some u)
    (new : ObjOk P w (upd H x o') h' x o') : HOk P w (upd H x o') h' := fun b u q => by
  have nown : ∀ c y, H c = some (.own y) → c ≠ x := fun c y r z => by subst z; rw [r] at mu; exact mu
  have ntup : ∀ c xs, H c = some (.tup xs) → c ≠ x := fun c xs r z => by subst z; rw [r] at mu; exact mu
  by_cases hb : b = x
  · subst hb; rw [upd_same] at q; cases q; exact new
  · rw [upd_ne hb] at q
    by_cases hbe : b = e
    · have q' : H b = some (.own x) := by
        rcases he with z | z
        · exact absurd (hbe.trans z) hb
        · rw [hbe]; exact z
      rw [q] at q'; cases q'
      obtain ⟨v, hv⟩ := heo
      exact ⟨v, by rw [hbe]; exact hv⟩
    · refine (ok b u q).stay (fun c v hc r => k c v ?_ r) (fun c r => by rw [upd_ne (nown c b r)]; exact r) fun c xs r => by rw [upd_ne (ntup c xs r)]; exact r
      rcases hc with rfl | hc
      · exact hbe
      · rintro rfl
        rcases he with z | z
        · exact nown c b hc z
        · rw [hc] at z; cases z; exact hb rfl
end
structure Un (fs ex : List Addr) (H H' : Hp) (h h' : Heap) : Prop where
  keep : ∀ b o, h.get? b = some o → H b = none → b ∉ fs → b ∉ ex → h'.get? b = some o
  slot : ∀ b o, h.get? b = some o → H b = none → b ∈ fs → b ∉ ex → ∃ sl, h'.get? b = some { o with slots := sl }
  free : ∀ b o, h.get? b = some o → H b = none → b ∉ ex → H' b = none
  there : ∀ b o, h.get? b = some o → b ∉ ex → ∃ o', h'.get? b = some o'
  tups : ∀ b xs, H b = some (.tup xs) → H' b = some (.tup xs)
  frzs : ∀ b o u, H b = some (.frz o u) → H' b = some (.frz o u)
  tbls : ∀ b ps, H b = some (.tbl ps) → ∃ more, H' b = some (.tbl (ps ++ more))
section
variable {fs fs' ex ex' : List Addr} {H H1 H2 : Hp} {h h1 h2 h' : Heap} {a x e : Addr} {o : HO}
theorem Un.any (u : Un fs ex H H1 h h1) {b : Addr} {ob : Obj} (q : h.get? b = some ob) (n : H b = none) (hx : b ∉ ex) : ∃ sl, h1.get? b = some { ob with slots := sl } := by
  by_cases hb : b ∈ fs
  · exact u.slot b ob q n hb hx
  · exact ⟨ob.slots, u.keep b ob q n hb hx⟩
theorem Un.trans (a : Un fs ex H H1 h h1) (b : Un fs ex H1 H2 h1 h2) : Un fs ex H H2 h h2 where
  keep := fun c ob q n hc hx => b.keep c ob (a.keep c ob q n hc hx) (a.free c ob q n hx) hc hx
  slot := fun c ob q n hc hx => by
    obtain ⟨sl, e1⟩ := a.slot c ob q n hc hx
    obtain ⟨sl', e2⟩ := b.slot c _ e1 (a.free c ob q n hx) hc hx
    exact ⟨sl', e2⟩
  free := fun c ob q n hx => by
    obtain ⟨o', e1⟩ := a.there c ob q hx
    exact b.free c o' e1 (a.free c ob q n hx) hx
  there := fun c ob q hx => by
    obtain ⟨o', e1⟩ := a.there c ob q hx
    exact b.there c o' e1 hx
  tups := fun c xs q => b.tups c xs (a.tups c xs q)
  frzs := fun c ob xs q => b.frzs c ob xs (a.frzs c ob xs q)
  tbls := fun c ps q => by
    obtain ⟨m1, e1⟩ := a.tbls c ps q
    obtain ⟨m2, e2⟩ := b.tbls c _ e1
    exact ⟨m1 ++ m2, by rw [e2, Array.append_assoc]⟩
theorem Un.kept (k : ∀ b u, h.get? b = some u → h'.get? b = some u) : Un fs ex H H h h' :=
  ⟨fun b ob q _ _ _ => k b ob q, fun b ob q _ _ _ => ⟨ob.slots, k b ob q⟩, fun _ _ _ n _ => n, fun b ob q _ => ⟨ob, k b ob q⟩, fun _ _ q => q, fun _ _ _ q => q, fun _ ps q => ⟨#[], by rw [q]; simp⟩⟩
theorem Un.refl : Un fs ex H H h h := Un.kept fun _ _ q => q
theorem Un.laid (k : ∀ b u, h.get? b = some u → h'.get? b = some u) (hp : h.objs.size ≤ a) (hn : H a = none) : Un fs ex H (upd H a o) h h' where
  keep := fun b u q _ _ _ => k b u q
  slot := fun b u q _ _ _ => ⟨u.slots, k b u q⟩
  free := fun b u q n _ => by rw [upd_ne (Nat.ne_of_lt (Nat.lt_of_lt_of_le (Heap.lt_size q) hp))]; exact n
  there := fun b u q _ => ⟨u, k b u q⟩
  tups := fun b xs q => by rw [upd_ne (ne_of_none q hn)]; exact q
  frzs := fun b u xs q => by rw [upd_ne (ne_of_none q hn)]; exact q
  tbls := fun b ps q => ⟨#[], by rw [upd_ne (ne_of_none q hn), q]; simp⟩
theorem Un.write (mu : Mut (H x)) (he : e = x ∨ H e = some (.own x)) (k : ∀ b u, b ≠ e → h.get? b = some u → h'.get? b = some u) (heo : ∃ u, h'.get? e = some u) : Un fs ex H (upd H x o) h h' := by
  have hx : ∀ b, H b = none → b ≠ x := fun b n z => by subst z; rw [n] at mu; exact mu
  have hb : ∀ b, H b = none → b ≠ e := fun b n z => by
    subst z
    rcases he with r | r
    · exact hx b n r
    · rw [n] at r; cases r
  have hm : ∀ b u, H b = some u → ¬ Mut (some u) → b ≠ x := fun b u q nm z => by subst z; rw [q] at mu; exact nm mu
  refine ⟨fun b u q n _ _ => k b u (hb b n) q, fun b u q n _ _ => ⟨u.slots, k b u (hb b n) q⟩, fun b u q n _ => by rw [upd_ne (hx b n)]; exact n, fun b u q _ => ?_,
    fun b xs q => by rw [upd_ne (hm b _ q fun z => z)]; exact q, fun b u xs q => by rw [upd_ne (hm b _ q fun z => z)]; exact q, fun b ps q => ⟨#[], by rw [upd_ne (hm b _ q fun z => z), q]; simp⟩⟩
  by_cases hbe : b = e
  · subst hbe; exact heo
  · exact ⟨u, k b u hbe q⟩
theorem Un.mono (u : Un fs ex H H1 h h1) (hs : ∀ b ∈ fs, b ∈ fs') (hx : ∀ b ∈ ex, b ∈ ex') : Un fs' ex' H H1 h h1 :=
  ⟨fun b ob q n hb he => u.keep b ob q n (fun z => hb (hs b z)) fun z => he (hx b z), fun _ _ q n _ he => u.any q n fun z => he (hx _ z), fun b ob q n he => u.free b ob q n fun z => he (hx b z), fun b ob q he => u.there b ob q fun z => he (hx b z), u.tups, u.frzs, u.tbls⟩
end
def trk (h : Heap) (H : Hp) : List Addr := (List.range h.objs.size).filter fun a => (H a).isSome
def hidT (h : Heap) (H : Hp) : Heap := PySem.W.hideAll h (trk h H)
theorem hidT_size (h : Heap) (H : Hp) : (hidT h H).objs.size = h.objs.size := PySem.W.hideAll_size _ _
theorem hidT_get {h : Heap} {H : Hp} {b : Addr} {o : Obj} (e : h.get? b = some o) (n : H b = none) : (hidT h H).get? b = some o :=
  PySem.W.hideAll_get _ e fun hm => by
    have q : (H b).isSome = true := (List.mem_filter.mp hm).2
    rw [n] at q; simp at q
theorem of_hidT {h : Heap} {H : Hp} {b : Addr} {o : Obj} (e : (hidT h H).get? b = some o) : h.get? b = some o ∧ H b = none := by
  have e' : h.get? b = some o := PySem.W.of_hideAll (trk h H) e
  refine ⟨e', ?_⟩
  cases q : H b with
  | none => rfl
  | some x =>
    have hm : b ∈ trk h H := List.mem_filter.mpr ⟨List.mem_range.mpr (Heap.lt_size e'), by simp [q]⟩
    have z : (hidT h H).get? b = none := PySem.W.hideAll_none (trk h H) hm
    rw [z] at e; cases e
def allNews (g h : Heap) (L : Addr) : List (Addr × Obj) := (List.range h.objs.size).filterMap fun a => if a = L ∨ (g.get? a).isSome = true then none else (h.get? a).map fun o => (a, o)
def rest (g h : Heap) (L d : Addr) : List (Addr × Obj) := (allNews g h L).filter fun p => decide (p.1 ≠ d)
end L2
namespace L2
open PySem PySem.Spec PyProof.Rows
structure Mod (K : PySem.W.Frag) (mg : Str → Option Value) (base : Heap) : Prop where
  kin : K.In base
  glob : base.Ns mainGlobals mg
  blt : ∃ mb, base.Ns builtinsNs mb ∧ ∀ x : Str, x ≠ "__name__" → mb x = bootBuiltins x
  nolimit : base.NoLimit
structure Cx where
  prog : Program
  w : World
  K : PySem.W.Frag
  mg : Str → Option Value
  base : Heap
  A : Around
  N : List Str
  s₀ : Shared
  H₀ : Hp
  env : Env
  outer : List Env
  stack : List Env
  ex : List Addr
  fn : Str → Bool
  calm : Bool
  pn : List (Addr × Obj)
  xe : Value → Shared → Prop
def frs (l : List Env) : List Addr := l.filterMap (·.frame)
abbrev Cx.fs (X : Cx) : List Addr := frs X.outer
def Vis (sc : Scope) (x : Str) : Prop := sc.names.lookup x = some .local ∨ sc.names.lookup x = some .cell ∨ sc.names.lookup x = some .free
def Loc (sc : Scope) (x : Str) : Prop := sc.names.lookup x = some .local ∨ sc.names.lookup x = some .cell
def Look (env : Env) (h : Heap) (m : Str → Option Value) (x : Str) (u : Value) : Prop :=
  (env.kindOf x = some .local ∧ m x = some u) ∨ ((env.kindOf x = some .cell ∨ env.kindOf x = some .free) ∧ ∃ c, env.cells.lookup x = some c ∧ h.IsCell c (some u))
structure Cx.Ok (X : Cx) : Prop where
  mod : Mod X.K X.mg X.base
  kind : X.env.scope.kind = .function
  glob : X.env.globals = mainGlobals
  blt : X.env.builtins = builtinsNs
  above : X.s₀.heap.objs.size ≤ X.env.locals
  inj : ∀ x y c, X.env.cells.lookup x = some c → X.env.cells.lookup y = some c → x = y
  has : ∀ x, (X.env.kindOf x = some .cell ∨ X.env.kindOf x = some .free) → ∃ c, X.env.cells.lookup x = some c
  cab : ∀ x c, X.fn x = true → X.env.cells.lookup x = some c → X.s₀.heap.objs.size ≤ c
  hd : X.calm = true → X.A.handled = none
  frames : X.A.frames = some X.stack
  stk : X.stack = X.outer ∨ (X.stack = X.env :: X.outer ∧ X.env.frame = some X.env.locals)
  exf : ∀ b ∈ X.ex, b ≠ X.env.locals ∧ ∀ x c, X.env.cells.lookup x = some c → c ≠ b
  bs : ∀ b o, X.base.get? b = some o → X.s₀.heap.get? b = some o ∧ X.H₀ b = none
  bsz : X.base.objs.size ≤ X.s₀.heap.objs.size
  noex : ∀ b o, X.base.get? b = some o → b ∉ X.ex
  exfs : ∀ b ∈ X.ex, b ∉ X.fs
  funs : X.s₀.heap.FunFrames X.base X.outer
  frf : ∀ b ∈ X.fs, X.H₀ b = none
structure Inv (X : Cx) (pins : List (Addr × Obj)) (σ : List (Option V)) (H : Hp) (s : Shared) : Prop where
  ok : X.Ok
  os : s.os = X.s₀.os
  bare : AllBare s.gens
  base : Un X.fs X.ex X.H₀ H X.s₀.heap s.heap
  loc : ∃ m, s.heap.Ns X.env.locals m ∧ ∀ (i : Nat) (x : Str) (v : V), X.N[i]? = some x → σ[i]? = some (some v) → Vis X.env.scope x → ∃ u, RelV v u ∧ Look X.env s.heap m x u
  cell : ∀ x c, X.env.cells.lookup x = some c → ∃ v, s.heap.IsCell c v
  free : H X.env.locals = none
  freeC : ∀ x c, X.env.cells.lookup x = some c → H c = none
  pin : ∀ p ∈ X.pn ++ pins, s.heap.get? p.1 = some p.2 ∧ H p.1 = none ∧ p.1 ≠ X.env.locals ∧ p.1 ∉ X.fs ∧ ∀ v, p.2.data ≠ .cell v
  hok : HOk X.prog X.w H s.heap
  len : σ.length = X.N.length
section
variable {X : Cx} {pins : List (Addr × Obj)} {σ : List (Option V)} {H H' : Hp} {s : Shared} {h' : Heap}
theorem Cx.Ok.nofr (ok : X.Ok) {b : Addr} {o : Obj} (e : X.base.get? b = some o) : b ∉ X.fs := fun hb => by
  have := (ok.funs.mem hb).1
  rw [e] at this; cases this
theorem Inv.bs (I : Inv X pins σ H s) : ∀ b o, X.base.get? b = some o → s.heap.get? b = some o ∧ H b = none := fun b o e =>
  ⟨I.base.keep b o (I.ok.bs b o e).1 (I.ok.bs b o e).2 (I.ok.nofr e) (I.ok.noex b o e), I.base.free b o (I.ok.bs b o e).1 (I.ok.bs b o e).2 (I.ok.noex b o e)⟩
theorem Inv.bk (I : Inv X pins σ H s) : ∀ b o, X.base.get? b = some o → s.heap.get? b = some o := fun b o e => (I.bs b o e).1
theorem Inv.mod (I : Inv X pins σ H s) : Mod X.K X.mg X.base := I.ok.mod
theorem Inv.kIn (I : Inv X pins σ H s) : X.K.In s.heap := I.ok.mod.kin.keeps I.bk
theorem Inv.nolimit (I : Inv X pins σ H s) : s.heap.NoLimit := I.ok.mod.nolimit.keeps I.bk
theorem Inv.fr (I : Inv X pins σ H s) : ∃ m, Fr X.base X.env.locals s.heap m :=
  let ⟨m, hn, _⟩ := I.loc
  ⟨m, hn, I.bk, Nat.le_trans I.ok.bsz I.ok.above⟩
theorem Inv.lt (I : Inv X pins σ H s) : X.env.locals < s.heap.objs.size := let ⟨_, hn, _⟩ := I.loc; hn.lt
theorem Inv.sz (I : Inv X pins σ H s) : X.s₀.heap.objs.size ≤ s.heap.objs.size := Nat.le_trans I.ok.above (Nat.le_of_lt I.lt)
theorem Inv.nofs (I : Inv X pins σ H s) {a : Addr} (h : s.heap.objs.size ≤ a) : a ∉ X.fs := fun hb => by
  obtain ⟨_, o, ho, _⟩ := I.ok.funs.mem hb
  exact absurd (Nat.lt_of_lt_of_le (Heap.lt_size ho) (Nat.le_trans I.sz h)) (Nat.lt_irrefl _)
theorem Inv.cne (I : Inv X pins σ H s) : ∀ x c, X.env.cells.lookup x = some c → c ≠ X.env.locals := fun x c e z => by
  obtain ⟨v, o, ho, hd⟩ := I.cell x c e
  obtain ⟨m, ⟨o', es, ep, ho', hd', _⟩, _⟩ := I.loc
  rw [z, ho'] at ho; cases ho; rw [hd'] at hd; cases hd
theorem Inv.funs (I : Inv X pins σ H s) : s.heap.FunFrames X.base X.outer := by
  have all : ∀ (l : List Env), (∀ b ∈ frs l, b ∈ X.fs) → X.s₀.heap.FunFrames X.base l → s.heap.FunFrames X.base l := by
    intro l
    induction l with
    | nil => intro _ _; trivial
    | cons env r ih =>
      intro hs hl
      obtain ⟨hk, ⟨L, o, hf, hn, ho, hd⟩, hr⟩ := hl
      have hL : L ∈ X.fs := hs L (by unfold frs; rw [List.filterMap_cons, hf]; exact List.mem_cons_self)
      obtain ⟨sl, e⟩ := I.base.slot L o ho (I.ok.frf L hL) hL fun z => I.ok.exfs L z hL
      exact ⟨hk, ⟨L, _, hf, hn, e, hd⟩, ih (fun b hb => hs b (by unfold frs; rw [List.filterMap_cons, hf]; exact List.mem_cons_of_mem _ hb)) hr⟩
  exact all X.outer (fun _ hb => hb) I.ok.funs
theorem Inv.stack (I : Inv X pins σ H s) : s.heap.FunFrames X.base X.stack := by
  rcases I.ok.stk with e | ⟨e, hf⟩
  · rw [e]; exact I.funs
  · rw [e]
    obtain ⟨m, hn, _⟩ := I.loc
    refine .cons (by rw [I.ok.kind]; decide) hf hn ?_ I.funs
    exact Heap.get?_none_of_le (Nat.le_trans I.ok.bsz I.ok.above)
theorem Inv.stkSub (I : Inv X pins σ H s) : ∀ b ∈ frs X.stack, b ∈ X.env.locals :: X.fs := fun b hb => by
  rcases I.ok.stk with e | ⟨e, hf⟩
  · rw [e] at hb; exact List.mem_cons_of_mem _ hb
  · rw [e] at hb
    unfold frs at hb
    rw [List.filterMap_cons, hf] at hb
    exact hb
theorem Inv.stkFree (I : Inv X pins σ H s) : ∀ b ∈ frs X.stack, H b = none := fun b hb => by
  rcases List.mem_cons.mp (I.stkSub b hb) with e | hb
  · rw [e]; exact I.free
  · obtain ⟨_, o, ho, _⟩ := I.ok.funs.mem hb
    exact I.base.free b o ho (I.ok.frf b hb) fun z => I.ok.exfs b z hb
theorem Inv.step {g' : Array GenState} {t' : Nat} {d' : Drawn} {ch : List Addr} (I : Inv X pins σ H s)
    (hch : ∀ b ∈ ch, (b ∈ X.ex ∨ X.s₀.heap.objs.size ≤ b) ∧ b ≠ X.env.locals ∧ (∀ x c, X.env.cells.lookup x = some c → c ≠ b) ∧ ∀ p ∈ X.pn ++ pins, p.1 ≠ b)
    (keep : ∀ b o, b ≠ X.env.locals → b ∉ X.fs → b ∉ ch → s.heap.get? b = some o → H b = none → h'.get? b = some o)
    (slot : ∀ b o, b ≠ X.env.locals → b ∈ X.fs → b ∉ ch → s.heap.get? b = some o → H b = none → ∃ sl, h'.get? b = some { o with slots := sl }) (free : ∀ b o, b ∉ ch → s.heap.get? b = some o → H b = none → H' b = none)
    (there : ∀ b o, b ∉ ch → s.heap.get? b = some o → ∃ o', h'.get? b = some o')
    (tups : ∀ b xs, H b = some (.tup xs) → H' b = some (.tup xs)) (frzs : ∀ b o u, H b = some (.frz o u) → H' b = some (.frz o u)) (tbls : ∀ b ps, H b = some (.tbl ps) → ∃ more, H' b = some (.tbl (ps ++ more)))
    (ns : ∀ m, s.heap.Ns X.env.locals m → h'.Ns X.env.locals m) (hok : HOk X.prog X.w H' h') (hg : AllBare g') :
    Inv X pins σ H' { s with heap := h', gens := g', drawn := d', toks := t' } := by
  have neL : ∀ b o, X.s₀.heap.get? b = some o → b ≠ X.env.locals := fun b o e => Nat.ne_of_lt (Nat.lt_of_lt_of_le (Heap.lt_size e) I.ok.above)
  have neC : ∀ b o, X.s₀.heap.get? b = some o → b ∉ X.ex → b ∉ ch := fun b o e hx hb => by
    rcases (hch b hb).1 with z | z
    · exact hx z
    · exact absurd (Nat.lt_of_lt_of_le (Heap.lt_size e) z) (Nat.lt_irrefl _)
  have cellK : ∀ x c, X.env.cells.lookup x = some c → ∀ v, s.heap.IsCell c v → h'.IsCell c v := fun x c e v ⟨o, ho, hd⟩ => by
    have nch : c ∉ ch := fun z => (hch c z).2.2.1 x c e rfl
    by_cases hc : c ∈ X.fs
    · obtain ⟨sl, q⟩ := slot c o (I.cne x c e) hc nch ho (I.freeC x c e)
      exact ⟨_, q, hd⟩
    · exact ⟨o, keep c o (I.cne x c e) hc nch ho (I.freeC x c e), hd⟩
  refine ⟨I.ok, I.os, hg, ⟨fun b o e n hb hx => ?_, fun b o e n hb hx => ?_, fun b o e n hx => ?_, fun b o e hx => ?_, fun b xs e => tups b xs (I.base.tups b xs e), fun b o xs e => frzs b o xs (I.base.frzs b o xs e), fun b ps e => ?_⟩, ?_, fun x c e => ?_, ?_, fun x c e => ?_, fun p hp => ?_, hok, I.len⟩
  · exact keep b o (neL b o e) hb (neC b o e hx) (I.base.keep b o e n hb hx) (I.base.free b o e n hx)
  · obtain ⟨sl, e1⟩ := I.base.slot b o e n hb hx
    obtain ⟨sl', e2⟩ := slot b _ (neL b o e) hb (neC b o e hx) e1 (I.base.free b o e n hx)
    exact ⟨sl', e2⟩
  · obtain ⟨o', e1⟩ := I.base.there b o e hx
    exact free b o' (neC b o e hx) e1 (I.base.free b o e n hx)
  · obtain ⟨o', e1⟩ := I.base.there b o e hx
    exact there b o' (neC b o e hx) e1
  · obtain ⟨m1, e1⟩ := I.base.tbls b ps e
    obtain ⟨m2, e2⟩ := tbls b _ e1
    exact ⟨m1 ++ m2, by rw [e2, Array.append_assoc]⟩
  · obtain ⟨m, hn, hl⟩ := I.loc
    refine ⟨m, ns m hn, fun i x v e1 e2 e3 => ?_⟩
    obtain ⟨u, r, l⟩ := hl i x v e1 e2 e3
    refine ⟨u, r, ?_⟩
    rcases l with l | ⟨k, c, e, z⟩
    · exact .inl l
    · exact .inr ⟨k, c, e, cellK x c e _ z⟩
  · obtain ⟨v, z⟩ := I.cell x c e
    exact ⟨v, cellK x c e v z⟩
  · obtain ⟨m, ⟨o, _, _, ho, _⟩, _⟩ := I.loc
    exact free _ o (fun z => (hch _ z).2.1 rfl) ho I.free
  · obtain ⟨v, o, ho, hd⟩ := I.cell x c e
    exact free c o (fun z => (hch c z).2.2.1 x c e rfl) ho (I.freeC x c e)
  · obtain ⟨e, n, ne, nf, d⟩ := I.pin p hp
    have nch : p.1 ∉ ch := fun z => (hch p.1 z).2.2.2 p hp rfl
    exact ⟨keep p.1 p.2 ne nf nch e n, free p.1 p.2 nch e n, ne, nf, d⟩
theorem Inv.un {t' : Nat} (I : Inv X pins σ H s) (u : Un X.fs [] H H' s.heap h') (hok : HOk X.prog X.w H' h') : Inv X pins σ H' { s with heap := h', toks := t' } := by
  obtain ⟨m, ⟨o, es, ep, ho, r⟩, _⟩ := id I.loc
  obtain ⟨sl, hL⟩ := u.any ho I.free (by simp)
  exact I.step (g' := s.gens) (d' := s.drawn) (ch := []) (fun _ z => nomatch z) (fun b o _ hb _ e n => u.keep b o e n hb (by simp)) (fun b o _ hb _ e n => u.slot b o e n hb (by simp)) (fun b o _ e n => u.free b o e n (by simp)) (fun b o _ e => u.there b o e (by simp)) u.tups u.frzs u.tbls (fun m' hm => by
    obtain ⟨o', es', ep', ho', r'⟩ := hm
    rw [ho] at ho'; cases ho'
    exact ⟨_, es', ep', hL, r'⟩) hok I.bare
theorem Inv.call {g' : Array GenState} {t' : Nat} {d' : Drawn} {ch : List Addr} (I : Inv X pins σ H s) (u : Un (frs X.stack) ch H H' s.heap h') (hok : HOk X.prog X.w H' h') (hg : AllBare g')
    (hch : ∀ b ∈ ch, (b ∈ X.ex ∨ X.s₀.heap.objs.size ≤ b) ∧ b ≠ X.env.locals ∧ (∀ x c, X.env.cells.lookup x = some c → c ≠ b) ∧ ∀ p ∈ X.pn ++ pins, p.1 ≠ b) :
    Inv X pins σ H' { s with heap := h', gens := g', drawn := d', toks := t' } := by
  obtain ⟨m, ⟨o, es, ep, ho, r⟩, _⟩ := id I.loc
  obtain ⟨sl, hL⟩ := u.any ho I.free fun z => (hch _ z).2.1 rfl
  exact I.step (ch := ch) hch (fun b o hL hb hc e n => u.keep b o e n (fun z => (List.mem_cons.mp (I.stkSub b z)).elim hL hb) hc) (fun b o _ _ hc e n => u.any e n hc) (fun b o hc e n => u.free b o e n hc) (fun b o hc e => u.there b o e hc) u.tups u.frzs u.tbls (fun m' hm => by
    obtain ⟨o', es', ep', ho', r'⟩ := hm
    rw [ho] at ho'; cases ho'
    exact ⟨_, es', ep', hL, r'⟩) hok hg
theorem Inv.turned {t' : Nat} {it : Addr} (I : Inv X pins σ H s) (k : ∀ b o, b ≠ it → s.heap.get? b = some o → h'.get? b = some o) (hn : H it = none) (hL : it ≠ X.env.locals)
    (h1 : it ∈ X.ex ∨ X.s₀.heap.objs.size ≤ it) (h2 : ∀ x c, X.env.cells.lookup x = some c → c ≠ it) (h3 : ∀ p ∈ X.pn ++ pins, p.1 ≠ it) : Inv X pins σ H { s with heap := h', toks := t' } := by
  have nit : ∀ b u, H b = some u → b ≠ it := fun b u e z => by rw [z, hn] at e; cases e
  refine I.step (g' := s.gens) (d' := s.drawn) (ch := [it]) (fun b hb => ?_) (fun b o _ _ hc e _ => k b o (fun z => hc (by simp [z])) e) (fun b o _ _ hc e _ => ⟨o.slots, k b o (fun z => hc (by simp [z])) e⟩) (fun _ _ _ _ n => n)
    (fun b o hc e => ⟨o, k b o (fun z => hc (by simp [z])) e⟩) (fun _ _ e => e) (fun _ _ _ e => e) (fun b ps e => ⟨#[], by rw [e]; simp⟩) (fun m hm => ?_) (fun b u e => ?_) I.bare
  · have e : b = it := by simpa using hb
    subst e
    exact ⟨h1, hL, h2, h3⟩
  · obtain ⟨o, es, ep, ho, r⟩ := hm
    exact ⟨o, es, ep, k _ o (Ne.symm hL) ho, r⟩
  · refine (I.hok b u e).stay (fun c v hc q => k c v ?_ q) (fun _ q => q) fun _ _ q => q
    rcases hc with z | z
    · rw [z]; exact nit b u e
    · exact nit c _ z
theorem Inv.tok (I : Inv X pins σ H s) (t : Nat) : Inv X pins σ H { s with toks := t } := I.un (h' := s.heap) (t' := t) Un.refl I.hok
theorem Inv.kept {t' : Nat} (I : Inv X pins σ H s) (k : ∀ b u, s.heap.get? b = some u → h'.get? b = some u) : Inv X pins σ H { s with heap := h', toks := t' } := I.un (Un.kept k) (I.hok.kept k)
theorem Inv.laid {a : Addr} {o : HO} {t' : Nat} (I : Inv X pins σ H s) (k : ∀ b u, s.heap.get? b = some u → h'.get? b = some u) (hp : s.heap.objs.size ≤ a) (new : ObjOk X.prog X.w (upd H a o) h' a o) :
    Inv X pins σ (upd H a o) { s with heap := h', toks := t' } := I.un (Un.laid k hp (I.hok.fresh hp)) (I.hok.laid k hp new)
theorem Inv.write {x e : Addr} {o : HO} {t' : Nat} (I : Inv X pins σ H s) (mu : Mut (H x)) (he : e = x ∨ H e = some (.own x)) (k : ∀ b u, b ≠ e → s.heap.get? b = some u → h'.get? b = some u) (heo : ∃ u, h'.get? e = some u)
    (new : ObjOk X.prog X.w (upd H x o) h' x o) : Inv X pins σ (upd H x o) { s with heap := h', toks := t' } := I.un (Un.write mu he k heo) (I.hok.write mu he k heo new)
theorem Inv.pins_of {pins' : List (Addr × Obj)} (I : Inv X pins σ H s) (h : ∀ p ∈ pins', s.heap.get? p.1 = some p.2 ∧ H p.1 = none ∧ p.1 ≠ X.env.locals ∧ p.1 ∉ X.fs ∧ ∀ v, p.2.data ≠ .cell v) : Inv X pins' σ H s :=
  ⟨I.ok, I.os, I.bare, I.base, I.loc, I.cell, I.free, I.freeC, fun p hp => (List.mem_append.mp hp).elim (fun z => I.pin p (List.mem_append_left _ z)) (h p), I.hok, I.len⟩
theorem nodup_ix {N : List Str} (hN : N.Nodup) {i j : Nat} {x : Str} (a : N[i]? = some x) (b : N[j]? = some x) : i = j := by
  obtain ⟨h1, e1⟩ := List.getElem?_eq_some_iff.mp a
  obtain ⟨h2, e2⟩ := List.getElem?_eq_some_iff.mp b
  exact (List.getElem_inj hN).mp (e1.trans e2.symm)
theorem store_ok2 {M : Model} {A : Around} {E : Value → Shared → Prop} {i : Nat} {x : Str} {v : V} {u : Value} {Q : Unit → Shared → Prop} (I : Inv X pins σ H s) (hN : X.N.Nodup) (hi : X.N[i]? = some x) (hx : Loc X.env.scope x) (r : RelV v u)
    (h : ∀ s', Inv X pins (σ.set i (some v)) H s' → (∃ a, Heap.SameBut a s.heap s'.heap ∧ (a = X.env.locals ∨ X.env.cells.lookup x = some a)) → Q () s') (hf : X.fn x = true ∨ X.env.scope.names.lookup x = some .local := by first | exact .inl rfl | exact .inr rfl | assumption) : wpAny M A (storeName X.env x u) Q E s := by
  obtain ⟨m, hn, hl⟩ := id I.loc
  have hcls : (X.env.scope.kind == .class || (X.env.scope.kind == .module && X.env.locals != X.env.globals)) = false := by rw [I.ok.kind]; rfl
  have hiσ : i < σ.length := by rw [I.len]; exact (List.getElem?_eq_some_iff.mp hi).1
  have cne := I.cne
  have tracked : ∀ {a : Addr} {h' : Heap}, (∃ o, s.heap.get? a = some o ∧ H a = none) → Heap.SameBut a s.heap h' → HOk X.prog X.w H h' := fun {a h'} ha hs b ob e => by
    obtain ⟨_, _, hfree⟩ := ha
    refine (I.hok b ob e).stay (fun c w' hc q => (hs.2 c ?_).trans q) (fun _ q => q) fun _ _ q => q
    rintro rfl
    rcases hc with rfl | hc
    · rw [hfree] at e; cases e
    · rw [hfree] at hc; cases hc
  rcases hx with hk | hk
  · refine wpAny_storeName_local hk hn (fun h' hn' hs => ?_) hcls
    obtain ⟨oL, _, _, hoL, _⟩ := id hn
    refine h _ ⟨I.ok, I.os, I.bare, ⟨fun b o e n hb hx => ?_, fun b o e n hb hx => ?_, I.base.free, fun b o e hx => ?_, I.base.tups, I.base.frzs, I.base.tbls⟩, ⟨_, hn', fun j y v' e1 e2 e3 => ?_⟩, fun y c e => ?_, I.free, I.freeC, fun p hp => ?_, tracked ⟨oL, hoL, I.free⟩ hs, by simpa using I.len⟩ ⟨_, hs, .inl rfl⟩
    · exact (hs.2 b (Nat.ne_of_lt (Nat.lt_of_lt_of_le (Heap.lt_size e) I.ok.above))).trans (I.base.keep b o e n hb hx)
    · obtain ⟨sl, e1⟩ := I.base.slot b o e n hb hx
      exact ⟨sl, (hs.2 b (Nat.ne_of_lt (Nat.lt_of_lt_of_le (Heap.lt_size e) I.ok.above))).trans e1⟩
    · obtain ⟨o', e1⟩ := I.base.there b o e hx
      exact ⟨o', (hs.2 b (Nat.ne_of_lt (Nat.lt_of_lt_of_le (Heap.lt_size e) I.ok.above))).trans e1⟩
    · by_cases hj : j = i
      · subst hj
        rw [hi] at e1; cases e1
        rw [List.getElem?_set_self hiσ] at e2
        cases e2
        exact ⟨u, r, .inl ⟨hk, by simp⟩⟩
      · rw [List.getElem?_set_ne (Ne.symm hj)] at e2
        obtain ⟨u', r', q⟩ := hl j y v' e1 e2 e3
        refine ⟨u', r', ?_⟩
        rcases q with ⟨k, e⟩ | ⟨k, c, e, z⟩
        · refine .inl ⟨k, ?_⟩
          have : y ≠ x := fun e => hj (nodup_ix hN e1 (e ▸ hi))
          simp [this, e]
        · exact .inr ⟨k, c, e, z.sameBut hs (cne y c e)⟩
    · obtain ⟨w', z⟩ := I.cell y c e
      exact ⟨w', z.sameBut hs (cne y c e)⟩
    · obtain ⟨e, n, ne, nf, d⟩ := I.pin p hp
      exact ⟨(hs.2 p.1 ne).trans e, n, ne, nf, d⟩
  · have hfn : X.fn x = true := by
      rcases hf with z | z
      · exact z
      · rw [z] at hk; cases hk
    obtain ⟨c, hc⟩ := I.ok.has x (.inl hk)
    obtain ⟨w', z⟩ := I.cell x c hc
    refine wpAny_storeName_cell I.ok.kind hk hc z (fun h' hc' hs => ?_)
    obtain ⟨oc, hoc, hocd⟩ := id z
    refine h { s with heap := h' } ⟨I.ok, I.os, I.bare, ⟨fun b o e n hb hx => ?_, fun b o e n hb hx => ?_, I.base.free, fun b o e hx => ?_, I.base.tups, I.base.frzs, I.base.tbls⟩, ⟨m, hn.sameBut hs (Ne.symm (cne x c hc)), fun j y v' e1 e2 e3 => ?_⟩, fun y c' e => ?_, I.free, I.freeC, fun p hp => ?_, tracked ⟨oc, hoc, I.freeC x c hc⟩ hs, by simpa using I.len⟩ ⟨c, hs, .inr hc⟩
    · exact (hs.2 b (Nat.ne_of_lt (Nat.lt_of_lt_of_le (Heap.lt_size e) (I.ok.cab x c hfn hc)))).trans (I.base.keep b o e n hb hx)
    · obtain ⟨sl, e1⟩ := I.base.slot b o e n hb hx
      exact ⟨sl, (hs.2 b (Nat.ne_of_lt (Nat.lt_of_lt_of_le (Heap.lt_size e) (I.ok.cab x c hfn hc)))).trans e1⟩
    · obtain ⟨o', e1⟩ := I.base.there b o e hx
      exact ⟨o', (hs.2 b (Nat.ne_of_lt (Nat.lt_of_lt_of_le (Heap.lt_size e) (I.ok.cab x c hfn hc)))).trans e1⟩
    · by_cases hj : j = i
      · subst hj
        rw [hi] at e1; cases e1
        rw [List.getElem?_set_self hiσ] at e2
        cases e2
        exact ⟨u, r, .inr ⟨.inl hk, c, hc, hc'⟩⟩
      · rw [List.getElem?_set_ne (Ne.symm hj)] at e2
        obtain ⟨u', r', q⟩ := hl j y v' e1 e2 e3
        refine ⟨u', r', ?_⟩
        rcases q with q | ⟨k, c', e, z'⟩
        · exact .inl q
        · refine .inr ⟨k, c', e, z'.sameBut hs ?_⟩
          rintro rfl
          exact hj (nodup_ix hN e1 (I.ok.inj _ _ _ e hc ▸ hi))
    · by_cases hcc : c' = c
      · subst hcc; exact ⟨_, hc'⟩
      · obtain ⟨w2, z2⟩ := I.cell y c' e
        exact ⟨w2, z2.sameBut hs hcc⟩
    · obtain ⟨e, n, ne, nf, d⟩ := I.pin p hp
      refine ⟨(hs.2 p.1 ?_).trans e, n, ne, nf, d⟩
      intro q
      rw [q, hoc] at e
      have q' : oc = p.2 := Option.some.inj e
      exact d w' (by rw [← q']; exact hocd)
theorem store_ok {M : Model} {A : Around} {E : Value → Shared → Prop} {i : Nat} {x : Str} {v : V} {u : Value} {Q : Unit → Shared → Prop} (I : Inv X pins σ H s) (hN : X.N.Nodup) (hi : X.N[i]? = some x) (hx : Loc X.env.scope x) (r : RelV v u)
    (h : ∀ s', Inv X pins (σ.set i (some v)) H s' → Q () s') (hf : X.fn x = true ∨ X.env.scope.names.lookup x = some .local := by first | exact .inl rfl | exact .inr rfl | assumption) : wpAny M A (storeName X.env x u) Q E s :=
  store_ok2 I hN hi hx r (fun s' I' _ => h s' I') hf
theorem Inv.call' {s' : Shared} {ch : List Addr} (I : Inv X pins σ H s) (ho : s'.os = s.os) (u : Un (frs X.stack) ch H H' s.heap s'.heap) (hok : HOk X.prog X.w H' s'.heap) (hg : AllBare s'.gens)
    (hch : ∀ b ∈ ch, (b ∈ X.ex ∨ X.s₀.heap.objs.size ≤ b) ∧ b ≠ X.env.locals ∧ (∀ x c, X.env.cells.lookup x = some c → c ≠ b) ∧ ∀ p ∈ X.pn ++ pins, p.1 ≠ b) : Inv X pins σ H' s' := by
  obtain ⟨h', g', d', t', o'⟩ := s'
  have e : o' = s.os := ho
  subst e
  exact I.call (g' := g') (t' := t') (d' := d') u hok hg hch
end
abbrev XK := Value → Option Addr → Hp → Prop
abbrev St := List (Option V)
abbrev VK := V → Hp → Prop
abbrev TE := St → Hp → VK → Prop
abbrev TT := St → Hp → (Bool → Hp → Prop) → Prop
abbrev TA := St → Hp → (List V → Hp → Prop) → Prop
structure Ends where
  nx : St → Hp → Prop
  rt : VK
  bk : St → Hp → Prop := fun _ _ => False
  ct : St → Hp → Prop := fun _ _ => False
abbrev TS := Ends → St → Hp → Prop
def EP (X : Cx) (pins : List (Addr × Obj)) (σ : St) (Q : VK) (u : Value) (s' : Shared) : Prop := ∃ v H', Inv X pins σ H' s' ∧ RelV v u ∧ Q v H'
def TP (X : Cx) (pins : List (Addr × Obj)) (σ : St) (Q : Bool → Hp → Prop) (b : Bool) (s' : Shared) : Prop := ∃ H', Inv X pins σ H' s' ∧ Q b H'
def AP (X : Cx) (pins : List (Addr × Obj)) (σ : St) (Q : List V → Hp → Prop) (us : List Value) (s' : Shared) : Prop := ∃ vs H', Inv X pins σ H' s' ∧ Vals vs us ∧ Q vs H'
def SP (X : Cx) (pins : List (Addr × Obj)) (D : Ends) (f : Flow) (s' : Shared) : Prop :=
  match f with
  | .next => ∃ σ' H', Inv X pins σ' H' s' ∧ D.nx σ' H'
  | .brk => ∃ σ' H', Inv X pins σ' H' s' ∧ D.bk σ' H'
  | .cont => ∃ σ' H', Inv X pins σ' H' s' ∧ D.ct σ' H'
  | .ret u => ∃ v σ' H', Inv X pins σ' H' s' ∧ RelV v u ∧ D.rt v H'
def PE (X : Cx) (e : Expr) (t : TE) : Prop :=
  ∀ (pins : List (Addr × Obj)) (s : Shared) (σ : St) (H : Hp) (Q : VK), Inv X pins σ H s → t σ H Q → wpAny (model X.prog X.w) X.A (eval e X.env) (EP X pins σ Q) X.xe s
def PT (X : Cx) (e : Expr) (t : TT) : Prop :=
  ∀ (pins : List (Addr × Obj)) (s : Shared) (σ : St) (H : Hp) (Q : Bool → Hp → Prop), Inv X pins σ H s → t σ H Q → wpAny (model X.prog X.w) X.A (isTrue e X.env (eval e X.env)) (TP X pins σ Q) X.xe s
def PW (X : Cx) (e : Expr) (t : TT) : Prop :=
  ∀ (whole : Sem Value) (pins : List (Addr × Obj)) (s : Shared) (σ : St) (H : Hp) (Q : Bool → Hp → Prop), Inv X pins σ H s → t σ H Q → wpAny (model X.prog X.w) X.A (isTrue e X.env whole) (TP X pins σ Q) X.xe s
theorem PW.pt {X : Cx} {e : Expr} {t : TT} (h : PW X e t) : PT X e t := h _
def PA (X : Cx) (es : List Expr) (t : TA) : Prop :=
  ∀ (pos : Pos) (pins : List (Addr × Obj)) (s : Shared) (σ : St) (H : Hp) (Q : List V → Hp → Prop), Inv X pins σ H s → t σ H Q → wpAny (model X.prog X.w) X.A (spliced (backTo pos (starEach es X.env))) (AP X pins σ Q) X.xe s
def PS (X : Cx) (st : Stmt) (t : TS) : Prop :=
  ∀ (pins : List (Addr × Obj)) (s : Shared) (σ : St) (H : Hp) (D : Ends), Inv X pins σ H s → t D σ H → wpAny (model X.prog X.w) X.A (exec st X.env) (SP X pins D) X.xe s
def PSs (X : Cx) (st : List Stmt) (t : TS) : Prop :=
  ∀ (pins : List (Addr × Obj)) (s : Shared) (σ : St) (H : Hp) (D : Ends), Inv X pins σ H s → t D σ H → wpAny (model X.prog X.w) X.A (execs st X.env) (SP X pins D) X.xe s
theorem thn {α : Type} {t : Sem α} {Q Q' : α → Shared → Prop} {M : Model} {A : Around} {E : Value → Shared → Prop} {s : Shared} (h : wpAny M A t Q E s) (hQ : ∀ a s, Q a s → Q' a s) : wpAny M A t Q' E s := wpAny_mono h hQ fun _ _ x => x
end L2
namespace L2
open PySem PySem.Spec PyProof.Rows
section
variable {X : Cx}
def tVar (i : Nat) : TE := fun σ H Q => ∃ v, σ[i]? = some (some v) ∧ Q v H
def tC (v : V) : TE := fun _ H Q => Q v H
theorem pe_var {i : Nat} {x : Str} {pos : Pos} (hN : X.N[i]? = some x) (hv : Vis X.env.scope x) (hd : (x == ("__debug__" : Str)) = false := by decide) (hcd : (x == ("__classdict__" : Str)) = false := by decide) : PE X (.Name x pos) (tVar i) := by
  intro pins s σ H Q I h
  obtain ⟨v, e, h⟩ := h
  obtain ⟨m, hn, hl⟩ := I.loc
  obtain ⟨u, r, l⟩ := hl i x v hN e hv
  have fin : EP X pins σ Q u s := ⟨v, H, I, r, h⟩
  rcases l with ⟨hk, hm⟩ | ⟨hk, c, hc, hcell⟩
  · exact wpAny_Name (wpAny_loadName_local I.ok.kind hk hn hm fin) hd
  · rcases hk with hk | hk
    · exact wpAny_Name (wpAny_loadName_cell I.ok.kind hk hc hcell fin) hd
    · exact wpAny_Name (wpAny_loadName_free I.ok.kind hk hc hcell fin hcd) hd
theorem pe_int {i j pos} : PE X (.Constant (.int i) j pos) (tC (.int i)) := fun _ _ _ H _ I h => wpAny_Constant_int ⟨.int i, H, I.tok _, ⟨_, rfl⟩, h⟩
theorem pe_bl {b j pos} : PE X (.Constant (.bool b) j pos) (tC (.bl b)) := fun _ _ _ H _ I h => Constant_bool ⟨.bl b, H, I, rfl, h⟩
theorem pe_non {j pos} : PE X (.Constant .none j pos) (tC .non) := fun _ _ _ H _ I h => Constant_none ⟨.non, H, I, rfl, h⟩
theorem pe_str {x j pos} : PE X (.Constant (.str x) j pos) (tC (.str x)) := fun _ _ _ H _ I h => Calls.Constant_str ⟨.str x, H, I.tok _, ⟨_, rfl⟩, h⟩
def Gl (X : Cx) (x : Str) : Prop := X.env.kindOf x = some .globalImplicit
theorem ld_glob {E : Value → Shared → Prop} {pins : List (Addr × Obj)} {s : Shared} {σ : St} {H : Hp} {x : Str} {u : Value} {pos : Pos} {Q : Value → Shared → Prop} (I : Inv X pins σ H s) (hg : Gl X x) (hm : X.mg x = some u) (h : Q u s)
    (hd : (x == ("__debug__" : Str)) = false := by decide) : wpAny (model X.prog X.w) X.A (eval (.Name x pos) X.env) Q E s :=
  Calls.Name_function_global I.ok.kind hg (Calls.loadGlobal_global (by rw [I.ok.glob]; exact I.mod.glob.keeps I.bk) hm h) hd
theorem ld_blt {E : Value → Shared → Prop} {pins : List (Addr × Obj)} {s : Shared} {σ : St} {H : Hp} {x : Str} {u : Value} {pos : Pos} {Q : Value → Shared → Prop} (I : Inv X pins σ H s) (hg : Gl X x) (hm : X.mg x = none) (hv : bootBuiltins x = some u) (h : Q u s)
    (hn : x ≠ "__name__" := by decide) (hd : (x == ("__debug__" : Str)) = false := by decide) : wpAny (model X.prog X.w) X.A (eval (.Name x pos) X.env) Q E s := by
  obtain ⟨mb, h1, h2⟩ := I.mod.blt
  exact Calls.Name_function_global I.ok.kind hg (Calls.loadGlobal_builtin (by rw [I.ok.glob]; exact I.mod.glob.keeps I.bk) hm (by rw [I.ok.blt]; exact h1.keeps I.bk) ((h2 x hn).trans hv) h) hd
theorem pe_bltn {x : Str} {v : V} {u : Value} {pos : Pos} (hg : Gl X x) (hm : X.mg x = none) (hv : bootBuiltins x = some u) (r : RelV v u) (hn : x ≠ "__name__" := by decide) (hd : (x == ("__debug__" : Str)) = false := by decide) : PE X (.Name x pos) (tC v) :=
  fun _ _ _ H _ I h => ld_blt I hg hm hv ⟨v, H, I, r, h⟩ hn hd
variable {a b : Expr} {ta tb : TE} {pos : Pos}
def tIsN (ta : TE) : TE := fun σ H Q => ta σ H fun x H1 => Q (.bl (decide (x = .non))) H1
def tNotN (ta : TE) : TE := fun σ H Q => ta σ H fun x H1 => Q (.bl (!decide (x = .non))) H1
def tB (t : TE) : TT := fun σ H Q => t σ H fun x H1 => ∃ c, x = .bl c ∧ Q c H1
theorem pt_val {e : Expr} {t : TE} (h : PE X e t) (he : ∀ whole, isTrue e X.env whole = (do let v ← whole; standAt e.pos; holding [v] (truthy v)) := by intro _; rfl) : PT X e (tB t) := by
  intro pins s σ H Q I hw
  refine isTrue_plain (thn (h pins s σ H _ I hw) fun v s1 ⟨x, H1, I1, r1, q1⟩ => ?_) (he _)
  obtain ⟨d, rfl, q⟩ := q1
  cases r1
  exact wpAny_truthy_bool ⟨H1, I1, q⟩
variable {tA tB' : TT} {rest : List Expr}
def tAnd (t u : TT) : TT := fun σ H Q => t σ H fun c H1 => if c = true then u σ H1 Q else Q false H1
def tOr (t u : TT) : TT := fun σ H Q => t σ H fun c H1 => if c = true then Q true H1 else u σ H1 Q
def tNot (t : TT) : TT := fun σ H Q => t σ H fun c H1 => Q (!c) H1
theorem pw_or1 (ha : PT X a tA) : PW X (.BoolOp .Or [a] pos) tA := by
  intro wh pins s σ H Q I h
  refine isTrue_or (thn (ha pins s σ H Q I h) fun c s1 e => ?_)
  cases c with
  | false => exact isTrue_or_nil e
  | true => exact e
theorem pw_or (ha : PT X a tA) (hb : PW X (.BoolOp .Or (b :: rest) pos) tB') : PW X (.BoolOp .Or (a :: b :: rest) pos) (tOr tA tB') := by
  intro wh pins s σ H Q I h
  refine isTrue_or (thn (ha pins s σ H _ I h) fun c s1 ⟨H1, I1, q1⟩ => ?_)
  cases c with
  | true => exact ⟨H1, I1, q1⟩
  | false => exact hb wh pins s1 σ H1 Q I1 q1
theorem pt_not (ha : PT X a tA) : PT X (.UnaryOp .Not a pos) (tNot tA) := by
  intro pins s σ H Q I h
  exact isTrue_not (ha pins s σ H (fun c H1 => Q (!c) H1) I h)
def tAndV (ta tb : TE) : TE := fun σ H Q => ta σ H fun x H1 => ∃ c, x = .bl c ∧ if c = true then tb σ H1 Q else Q (.bl false) H1
def tOrV (ta tb : TE) : TE := fun σ H Q => ta σ H fun x H1 => ∃ c, x = .bl c ∧ if c = true then Q (.bl true) H1 else tb σ H1 Q
def tNotV (ta : TE) : TE := fun σ H Q => ta σ H fun x H1 => ∃ c, x = .bl c ∧ Q (.bl (!c)) H1
theorem pe_one {op} {t : TE} (h : PE X a t) : PE X (.BoolOp op [a] pos) t := fun pins s σ H Q I hw => BoolOp_one (h pins s σ H Q I hw)
theorem pe_and (ha : PE X a ta) (hb : PE X (.BoolOp .And (b :: rest) pos) tb) : PE X (.BoolOp .And (a :: b :: rest) pos) (tAndV ta tb) := by
  intro pins s σ H Q I h
  refine BoolOp_and (thn (ha pins s σ H _ I h) fun v s1 ⟨x, H1, I1, r1, q1⟩ => ?_)
  obtain ⟨c, rfl, q1⟩ := q1
  cases r1
  refine wpAny_truthy_bool ?_
  cases c with
  | true => exact hb pins s1 σ H1 Q I1 q1
  | false => exact ⟨.bl false, H1, I1, rfl, q1⟩
theorem pe_not (ha : PE X a ta) : PE X (.UnaryOp .Not a pos) (tNotV ta) := by
  intro pins s σ H Q I h
  refine UnaryOp_ (thn (ha pins s σ H _ I h) fun v s1 ⟨x, H1, I1, r1, q1⟩ => ?_)
  obtain ⟨c, rfl, q1⟩ := q1
  cases r1
  exact not_of (wpAny_truthy_bool ⟨.bl (!c), H1, I1, rfl, q1⟩)
def tIf (t : TT) (ta tb : TE) : TE := fun σ H Q => t σ H fun c H1 => if c = true then ta σ H1 Q else tb σ H1 Q
end
end L2
namespace L2
open PySem PySem.Spec PyProof.Rows
def SqL (K : PySem.W.Frag) (H : Hp) (a : Addr) (xs : List V) : Prop :=
  Rd H a (.lst xs) ∨
    ∃ (o : Obj) (its : Array Value) (n : Nat), K.lookup a = some o ∧ o.cls = .type "list" ∧ o.dict = none ∧ o.data = .seq its n ∧ its.size ≤ sizeLine ∧ Vals xs its.toList
def SqT (K : PySem.W.Frag) (H : Hp) (a : Addr) (xs : List V) : Prop :=
  Rd H a (.tup xs) ∨
    ∃ (o : Obj) (its : Array Value) (n : Nat), K.lookup a = some o ∧ o.cls = .type "tuple" ∧ o.data = .seq its n ∧ its.size ≤ sizeLine ∧ Vals xs its.toList
def absV : Value → Option V
  | .none => some .non
  | .bool b => some (.bl b)
  | .int i _ => some (.int i)
  | .str x _ => some (.str x)
  | .bytes b _ => some (.byt b)
  | .float b _ => some (.flt b)
  | .ref a => some (.ref a)
  | .type n => some (.ty n)
  | _ => none
theorem RelV.abs {x : V} {u : Value} (r : RelV x u) : absV u = some x := by
  cases x with
  | non => cases r; rfl
  | bl _ => cases r; rfl
  | int _ => obtain ⟨t, rfl⟩ := r; rfl
  | str _ => obtain ⟨t, rfl⟩ := r; rfl
  | byt _ => obtain ⟨t, rfl⟩ := r; rfl
  | flt _ => obtain ⟨t, rfl⟩ := r; rfl
  | ref _ => cases r; rfl
  | ty _ => cases r; rfl
theorem RelV.inj {x y : V} {u : Value} (r : RelV x u) (q : RelV y u) : x = y := Option.some.inj (r.abs.symm.trans q.abs)
theorem Vals.inj : ∀ {xs ys : List V} {us : List Value}, Vals xs us → Vals ys us → xs = ys
  | _, _, _, .nil, .nil => rfl
  | _, _, _, .cons r t, .cons r' t' => by rw [r.inj r', Vals.inj t t']
section
variable {X : Cx} {pins : List (Addr × Obj)} {σ : St} {H : Hp} {s : Shared} {a : Addr} {xs ys : List V}
theorem SqL.of {K : PySem.W.Frag} (h : H a = some (.lst xs)) : SqL K H a xs := .inl (.inl h)
theorem SqT.of {K : PySem.W.Frag} (h : H a = some (.tup xs)) : SqT K H a xs := .inl (.inl h)
theorem Inv.list (I : Inv X pins σ H s) (h : SqL X.K H a xs) : ∃ its : List Value, Vals xs its ∧ PlainL s.heap a its.toArray ∧ xs.length ≤ sizeLine := by
  rcases h with h | ⟨o, its, n, hk, hc, hd, hs, hz, r⟩
  · obtain ⟨z, its, n, r, e⟩ := h.ok I.hok
    exact ⟨its, r, ⟨_, n, e, rfl, rfl, rfl⟩, z⟩
  · refine ⟨its.toList, r, ⟨o, n, I.kIn a o hk, hc, hd, by simpa using hs⟩, ?_⟩
    have e := r.length
    simp only [Array.length_toList] at e
    omega
theorem Inv.tuple (I : Inv X pins σ H s) (h : SqT X.K H a xs) : ∃ its : List Value, Vals xs its ∧ IsTup s.heap a its.toArray ∧ xs.length ≤ sizeLine := by
  rcases h with h | ⟨o, its, n, hk, hc, hs, hz, r⟩
  · obtain ⟨z, its, r, p⟩ := h.ok I.hok
    exact ⟨its, r, p, z⟩
  · refine ⟨its.toList, r, ⟨o, I.kIn a o hk, hc, n, by simpa using hs⟩, ?_⟩
    have e := r.length
    simp only [Array.length_toList] at e
    omega
theorem Inv.list_inj (I : Inv X pins σ H s) (h : SqL X.K H a xs) (h' : SqL X.K H a ys) : xs = ys := by
  obtain ⟨its, r, ⟨o, n, e, _, _, d⟩, _⟩ := I.list h
  obtain ⟨its', r', ⟨o', n', e', _, _, d'⟩, _⟩ := I.list h'
  rw [e] at e'; cases e'
  rw [d] at d'
  injection d' with d1 _
  have : its = its' := by simpa using congrArg Array.toList d1
  subst this
  exact r.inj r'
theorem Inv.tuple_inj (I : Inv X pins σ H s) (h : SqT X.K H a xs) (h' : SqT X.K H a ys) : xs = ys := by
  obtain ⟨its, r, ⟨o, e, _, n, d⟩, _⟩ := I.tuple h
  obtain ⟨its', r', ⟨o', e', _, n', d'⟩, _⟩ := I.tuple h'
  rw [e] at e'; cases e'
  rw [d] at d'
  injection d' with d1 _
  have : its = its' := by simpa using congrArg Array.toList d1
  subst this
  exact r.inj r'
end
abbrev Cx.wish (X : Cx) (E : Value → Shared → Prop) : Cx := { X with xe := E }
abbrev Cx.nox (X : Cx) : Cx := X.wish fun _ _ => False
theorem Cx.Ok.wish {X : Cx} (ok : X.Ok) (E : Value → Shared → Prop) : (X.wish E).Ok :=
  ⟨ok.mod, ok.kind, ok.glob, ok.blt, ok.above, ok.inj, ok.has, ok.cab, ok.hd, ok.frames, ok.stk, ok.exf, ok.bs, ok.bsz, ok.noex, ok.exfs, ok.funs, ok.frf⟩
theorem Cx.Ok.unwish {X : Cx} {E : Value → Shared → Prop} (ok : (X.wish E).Ok) : X.Ok :=
  ⟨ok.mod, ok.kind, ok.glob, ok.blt, ok.above, ok.inj, ok.has, ok.cab, ok.hd, ok.frames, ok.stk, ok.exf, ok.bs, ok.bsz, ok.noex, ok.exfs, ok.funs, ok.frf⟩
section
variable {X : Cx} {pins : List (Addr × Obj)} {σ : St} {H : Hp} {s : Shared} {E : Value → Shared → Prop}
theorem Inv.wish (I : Inv X pins σ H s) (E : Value → Shared → Prop) : Inv (X.wish E) pins σ H s := ⟨I.ok.wish E, I.os, I.bare, I.base, I.loc, I.cell, I.free, I.freeC, I.pin, I.hok, I.len⟩
theorem Inv.unwish (I : Inv (X.wish E) pins σ H s) : Inv X pins σ H s := ⟨I.ok.unwish, I.os, I.bare, I.base, I.loc, I.cell, I.free, I.freeC, I.pin, I.hok, I.len⟩
theorem SP.unwish {D : Ends} {f : Flow} {s' : Shared} (h : SP (X.wish E) pins D f s') : SP X pins D f s' := by
  cases f with
  | next => obtain ⟨σ', H', I, q⟩ := h; exact ⟨σ', H', I.unwish, q⟩
  | brk => obtain ⟨σ', H', I, q⟩ := h; exact ⟨σ', H', I.unwish, q⟩
  | cont => obtain ⟨σ', H', I, q⟩ := h; exact ⟨σ', H', I.unwish, q⟩
  | ret u => obtain ⟨v, σ', H', I, r, q⟩ := h; exact ⟨v, σ', H', I.unwish, r, q⟩
theorem PE.nox {e : Expr} {t : TE} (h : PE X.nox e t) : PE X e t := fun pins s σ H Q I hw =>
  wpAny_mono (h pins s σ H Q (I.wish _) hw) (fun _ _ ⟨v, H', I', r, q⟩ => ⟨v, H', I'.unwish, r, q⟩) fun _ _ z => False.elim z
theorem PT.nox {e : Expr} {t : TT} (h : PT X.nox e t) : PT X e t := fun pins s σ H Q I hw =>
  wpAny_mono (h pins s σ H Q (I.wish _) hw) (fun _ _ ⟨H', I', q⟩ => ⟨H', I'.unwish, q⟩) fun _ _ z => False.elim z
theorem PSs.nox {st : List Stmt} {t : TS} (h : PSs X.nox st t) : PSs X st t := fun pins s σ H D I hw =>
  wpAny_mono (h pins s σ H D (I.wish _) hw) (fun _ _ q => q.unwish) fun _ _ z => False.elim z
end
section
variable {X : Cx} {st : Stmt} {rest : List Stmt} {t u : TS} {e : Expr} {te : TE} {pos : Pos}
def tNext : TS := fun D σ H => D.nx σ H
def tSeq (t u : TS) : TS := fun D σ H => t { D with nx := u D } σ H
theorem pss_nil : PSs X [] tNext := fun _ _ σ H _ I h => wpAny_execs_nil ⟨σ, H, I, h⟩
theorem pss_cons (h1 : PS X st t) (h2 : PSs X rest u) : PSs X (st :: rest) (tSeq t u) := by
  intro pins s σ H D I h
  refine wpAny_execs_cons (thn (h1 pins s σ H { D with nx := u D } I h) fun f s1 q => ?_)
  cases f with
  | next =>
    obtain ⟨σ', H', I', q⟩ := q
    exact h2 pins s1 σ' H' D I' q
  | ret v => exact q
  | brk => exact q
  | cont => exact q
theorem pss_one (h1 : PS X st t) : PSs X [st] t := by
  intro pins s σ H D I h
  refine wpAny_execs_cons (thn (h1 pins s σ H D I h) fun f s1 q => ?_)
  cases f with
  | next => exact wpAny_execs_nil q
  | ret v => exact q
  | brk => exact q
  | cont => exact q
def tBreak : TS := fun D σ H => D.bk σ H
def tCont : TS := fun D σ H => D.ct σ H
def tDrop (te : TE) : TS := fun D σ H => te σ H fun _ H1 => D.nx σ H1
def tRet (te : TE) : TS := fun D σ H => te σ H D.rt
theorem ps_ret (he : PE X e te) : PS X (.Return (some e) pos) (tRet te) := by
  intro pins s σ H D I h
  exact wpAny_Return_some (thn (he pins s σ H _ I h) fun v s1 ⟨x, H1, I1, r1, q1⟩ => ⟨x, σ, H1, I1, r1, q1⟩)
def tRetN : TS := fun D _ H => D.rt .non H
def tIfS (c : TT) (t u : TS) : TS := fun D σ H => c σ H fun b H1 => if b = true then t D σ H1 else u D σ H1
theorem ps_if {c : Expr} {a b : List Stmt} {tc : TT} (hc : PT X c tc) (ha : PSs X a t) (hb : PSs X b u) : PS X (.If c a b pos) (tIfS tc t u) := by
  intro pins s σ H D I h
  refine wpAny_If (thn (hc pins s σ H _ I h) fun d s1 ⟨H1, I1, q1⟩ => ?_)
  cases d with
  | true => exact ha pins s1 σ H1 D I1 q1
  | false => exact hb pins s1 σ H1 D I1 q1
end
abbrev TG := V → St → Hp → (St → Hp → Prop) → Prop
abbrev TGs := List V → St → Hp → (St → Hp → Prop) → Prop
def PG (X : Cx) (target : Expr) (t : TG) : Prop :=
  ∀ (pins : List (Addr × Obj)) (s : Shared) (σ : St) (H : Hp) (v : V) (u : Value) (Q : St → Hp → Prop), Inv X pins σ H s → RelV v u → t v σ H Q →
    wpAny (model X.prog X.w) X.A (assign target X.env u) (fun _ s' => ∃ σ' H', Inv X pins σ' H' s' ∧ Q σ' H') X.xe s
abbrev TSet := V → V → V → Hp → (Hp → Prop) → Prop
def PSet (X : Cx) (t : TSet) : Prop :=
  ∀ (pins : List (Addr × Obj)) (s : Shared) (σ : St) (H : Hp) (o i v : V) (ov iv u : Value) (Q : Hp → Prop), Inv X pins σ H s → RelV o ov → RelV i iv → RelV v u → t o i v H Q →
    wpAny (model X.prog X.w) X.A (setItem ov iv u) (fun _ s' => ∃ H', Inv X pins σ H' s' ∧ Q H') X.xe s
abbrev TIp := V → V → Hp → VK → Prop
section
variable {X : Cx} {pos : Pos}
def gName (i : Nat) : TG := fun v σ H Q => Q (σ.set i (some v)) H
theorem pg_name {i : Nat} {x : Str} (hN : X.N.Nodup) (hi : X.N[i]? = some x) (hx : Loc X.env.scope x) (hf : X.fn x = true ∨ X.env.scope.names.lookup x = some .local := by first | exact .inl rfl | exact .inr rfl | assumption) : PG X (.Name x pos) (gName i) := by
  intro pins s σ H v u Q I r h
  exact wpAny_assign_Name (store_ok I hN hi hx r (fun s' I' => ⟨_, H, I', h⟩) hf)
def gNil : TGs := fun vs σ H Q => vs = [] ∧ Q σ H
def gCons (t : TG) (u : TGs) : TGs := fun vs σ H Q => ∃ v r, vs = v :: r ∧ t v σ H fun σ' H' => u r σ' H' Q
def gTup (K : PySem.W.Frag) (n : Nat) (t : TGs) : TG := fun v σ H Q => ∃ a xs, v = .ref a ∧ SqT K H a xs ∧ xs.length = n ∧ t xs σ H Q
def gSub (to ti : TE) (t : TSet) : TG := fun v σ H Q => to σ H fun o H1 => ti σ H1 fun i H2 => t o i v H2 fun H3 => Q σ H3
theorem pg_sub {o i : Expr} {to ti : TE} {t : TSet} (ho : PE X o to) (hi : PE X i ti) (hs : PSet X t)
    (ha : ∀ v, assign (.Subscript o i pos) X.env v = (do
      let ov ← holding [v] (eval o X.env)
      let iv ← holding [v, ov] (eval i X.env)
      standAt pos
      holding [v, ov, iv] (setItem ov iv v)
      release [v, ov, iv] []) := by intro _; rfl) : PG X (.Subscript o i pos) (gSub to ti t) := by
  intro pins s σ H v u Q I r h
  rw [ha]
  refine wpAny_bind (wpAny_holding (thn (ho pins s σ H _ I h) fun ov s1 ⟨x, H1, I1, r1, q1⟩ => ?_))
  refine wpAny_bind (wpAny_holding (thn (hi pins s1 σ H1 _ I1 q1) fun iv s2 ⟨y, H2, I2, r2, q2⟩ => ?_))
  refine wpAny_bind (wpAny_standAt (wpAny_bind (wpAny_holding (thn (hs pins s2 σ H2 x y v ov iv u _ I2 r1 r2 r q2) fun _ s3 ⟨H3, I3, q3⟩ => ?_))))
  exact wpAny_release ⟨σ, H3, I3, q3⟩
def tAsg (te : TE) (g : TG) : TS := fun D σ H => te σ H fun x H1 => g x σ H1 D.nx
theorem ps_asg {tg e : Expr} {te : TE} {g : TG} (he : PE X e te) (hg : PG X tg g) (hs : swapsWithSole [tg] e pos.line X.env = pure false := by rfl) (hw : swappedStores [tg] e X.env = pure none := by rfl)
    (h1 : (assignEach [tg] X.env).map (·.2) = [assign tg X.env] := by rfl) : PS X (.Assign [tg] e pos) (tAsg te g) := by
  intro pins s σ H D I h
  refine wpAny_Assign_stores (thn (he pins s σ H _ I h) fun v s1 ⟨x, H1, I1, r1, q1⟩ => ?_) hs hw
  rw [h1]
  exact thn (hg pins s1 σ H1 x v _ I1 r1 q1) fun _ s2 q => q
theorem ps_set {i : Nat} {x : Str} {e : Expr} {te : TE} {pos' : Pos} (hN : X.N.Nodup) (hi : X.N[i]? = some x) (hx : Loc X.env.scope x) (he : PE X e te) (hs : swapsWith e (some (.Name x pos')) pos.line X.env = pure false := by rfl) (hf : X.fn x = true ∨ X.env.scope.names.lookup x = some .local := by first | exact .inl rfl | exact .inr rfl | assumption) :
    PS X (.Assign [.Name x pos'] e pos) (tAsg te (gName i)) := by
  intro pins s σ H D I h
  refine wpAny_Assign_Name (thn (he pins s σ H _ I h) fun v s1 ⟨y, H1, I1, r1, q1⟩ => ?_) hs
  exact store_ok I1 hN hi hx r1 (fun s2 I2 => ⟨_, H1, I2, q1⟩) hf
def tAug (i : Nat) (te : TE) (ti : TIp) : TS := fun D σ H => ∃ x, σ[i]? = some (some x) ∧ te σ H fun y H1 => ti x y H1 fun z H2 => D.nx (σ.set i (some z)) H2
def ipI (f : Int → Int → Int) : TIp := fun x y H Q => ∃ i j, x = .int i ∧ y = .int j ∧ Q (.int (f i j)) H
end
section
variable {X : Cx} {pos : Pos}
end
structure It where
  go : Nat → Hp → Prop
  yld : Nat → Hp → V → Hp → Prop
  stop : Nat → Hp → Prop
def FpOk (X : Cx) (pins : List (Addr × Obj)) (H : Hp) (b : Addr) : Prop :=
  H b = none ∧ b ≠ X.env.locals ∧ b ∉ X.fs ∧ (b ∈ X.ex ∨ X.s₀.heap.objs.size ≤ b) ∧ (∀ x c, X.env.cells.lookup x = some c → c ≠ b) ∧ ∀ p ∈ X.pn ++ pins, p.1 ≠ b
theorem Inv.fpOk {X : Cx} {pins : List (Addr × Obj)} {σ : St} {H H' : Hp} {s : Shared} {b : Addr} (I : Inv X pins σ H s) (hb : s.heap.objs.size ≤ b) (hn : H' b = none) : FpOk X pins H' b := by
  refine ⟨hn, Nat.ne_of_gt (Nat.lt_of_lt_of_le I.lt hb), I.nofs hb, .inr (Nat.le_trans I.sz hb), fun x c e z => ?_, fun p hp z => ?_⟩
  · obtain ⟨v, q⟩ := I.cell x c e
    exact absurd (Nat.lt_of_lt_of_le q.lt (by rw [z]; exact hb)) (Nat.lt_irrefl _)
  · exact absurd (Nat.lt_of_lt_of_le (Heap.lt_size (I.pin p hp).1) (by rw [z]; exact hb)) (Nat.lt_irrefl _)
structure Turn (P : Program) (w : World) (K : PySem.W.Frag) (tg : Expr) (J : It) (fp : List Addr) (it : Addr) (tn : Nat → Heap → Prop) : Prop where
  mem : it ∈ fp
  obj : ∀ i h, tn i h → ∀ b ∈ fp, ∃ o, h.get? b = some o ∧ ∀ v, o.data ≠ .cell v
  keep : ∀ i h h', tn i h → (∀ b ∈ fp, ∀ o, h.get? b = some o → h'.get? b = some o) → tn i h'
  item : ∀ (X : Cx), X.prog = P → X.w = w → X.K = K → X.calm = true → ∀ (i : Nat) (pins : List (Addr × Obj)) (s : Shared) (σ : St) (H : Hp) (E : Value → Shared → Prop), Inv X pins σ H s → (∀ b ∈ fp, FpOk X pins H b) → tn i s.heap → J.go i H →
    wpAny (model P w) X.A (pyNext (.ref it)) (fun r s1 => ∃ u, r = some u ∧
      wpAny (model P w) X.A (letOwnedTupleGo tg (.ref it) u) (fun _ s2 => ∃ x H', Inv X pins σ H' s2 ∧ RelV x u ∧ J.yld i H x H' ∧ tn (i + 1) s2.heap ∧ ∀ b ∈ fp, H' b = none) E s1) E s
  done : ∀ (X : Cx), X.prog = P → X.w = w → X.K = K → X.calm = true → ∀ (i : Nat) (pins : List (Addr × Obj)) (s : Shared) (σ : St) (H : Hp) (E : Value → Shared → Prop), Inv X pins σ H s → (∀ b ∈ fp, FpOk X pins H b) → tn i s.heap → J.stop i H →
    wpAny (model P w) X.A (pyNext (.ref it)) (fun r s1 => r = none ∧ Inv X pins σ H s1) E s
  self : ∀ (A : Around) (i : Nat) (s : Shared) (Q : Value → Shared → Prop) (E : Value → Shared → Prop), tn i s.heap → Q (.ref it) s → wpAny (model P w) A (pyIter (.ref it)) Q E s
abbrev TI := St → Hp → (It → Hp → Prop) → Prop
def PIE (X : Cx) (pins : List (Addr × Obj)) (σ : St) (tg : Expr) (R : It → Hp → Prop) (itv : Value) (s2 : Shared) : Prop :=
  ∃ (it : Addr) (fp : List Addr) (tn : Nat → Heap → Prop) (J : It) (H' : Hp), itv = .ref it ∧ Inv X pins σ H' s2 ∧ Turn X.prog X.w X.K tg J fp it tn ∧ tn 0 s2.heap ∧ (∀ b ∈ fp, FpOk X pins H' b) ∧ R J H'
def PI (X : Cx) (tg iter : Expr) (wi : TI) : Prop :=
  ∀ (pins : List (Addr × Obj)) (s : Shared) (σ : St) (H : Hp) (R : It → Hp → Prop), Inv X pins σ H s → wi σ H R →
    wpAny (model X.prog X.w) X.A (eval iter X.env) (fun v s1 => wpAny (model X.prog X.w) X.A (pyIter v) (PIE X pins σ tg R) X.xe s1) X.xe s
theorem go_of {M : Model} {A : Around} {E : Value → Shared → Prop} {s : Shared} {tg : Expr} {it : Addr} {u : Value} {o : Obj} {n : String} {vs : Array Value} {Q : Unit → Shared → Prop} (ho : s.heap.get? it = some o) (hc : o.cls = .type n) (hd : o.data = .fields vs)
    (hn : ["enumerate", "zip", "dict_itemiterator", "dict_reverseitemiterator", "odict_iterator", "itertools.zip_longest", "itertools.pairwise"].contains n = false) (hQ : Q () s) : wpAny M A (letOwnedTupleGo tg (.ref it) u) Q E s := by
  unfold letOwnedTupleGo
  cases tg <;> first
    | exact wpAny_pure hQ
    | (cases u <;> first
        | exact wpAny_pure hQ
        | (refine wpAny_bind (wpAny_load ho ?_)
           rw [hc, hd]
           show wpAny M A (if (["enumerate", "zip", "dict_itemiterator", "dict_reverseitemiterator", "odict_iterator", "itertools.zip_longest", "itertools.pairwise"].contains n && vs[0]? == some (rawInt _)) = true then _ else _) Q E s
           rw [if_neg (by intro h; rw [hn, Bool.false_and] at h; cases h)]
           exact wpAny_pure hQ))
def Itl (K : PySem.W.Frag) (a : Addr) : It :=
  ⟨fun i H => ∃ xs x, SqL K H a xs ∧ xs[i]? = some x, fun i H x H' => H' = H ∧ ∀ xs, SqL K H a xs → xs[i]? = some x, fun i H => ∃ xs, SqL K H a xs ∧ xs.length ≤ i⟩
def Itt (K : PySem.W.Frag) (a : Addr) : It :=
  ⟨fun i H => ∃ xs x, SqT K H a xs ∧ xs[i]? = some x, fun i H x H' => H' = H ∧ ∀ xs, SqT K H a xs → xs[i]? = some x, fun i H => ∃ xs, SqT K H a xs ∧ xs.length ≤ i⟩
def Itr (lo : Int) (n : Nat) : It := ⟨fun i _ => i < n, fun i H x H' => H' = H ∧ x = .int (lo + i), fun i _ => n ≤ i⟩
theorem turn_list {P : Program} {w : World} {K : PySem.W.Frag} {tg : Expr} (a it : Addr) : Turn P w K tg (Itl K a) [it] it (fun i h => h.IsListIter it a i) where
  mem := by simp
  obj := fun i h st b hb => by
    have e : b = it := by simpa using hb
    subst e
    obtain ⟨o, e, c, d⟩ := st
    exact ⟨o, e, fun v z => by rw [d] at z; cases z⟩
  keep := fun i h h' st k => st.at fun o e => k it (by simp) o e
  item := by
    intro X hP hw hK hc i pins s σ H E I hf st hg
    subst hP hw hK
    obtain ⟨xs, x, hq, hx⟩ := hg
    obtain ⟨its, rv, p, hz⟩ := I.list hq
    obtain ⟨u, hu, ru⟩ := rv.get hx
    obtain ⟨f0, f1, f2, f3, f4, f5⟩ := hf it (by simp)
    refine wpAny_pyNext_list_item st p.isList (x := u) (by simpa using hu) fun h' st' sb => ?_
    have I1 : Inv X pins σ H { s with heap := h' } := I.turned (t' := s.toks) (fun b o hb e => (sb.2 b hb).trans e) f0 f1 f3 f4 f5
    obtain ⟨o, e, c, d⟩ := id st'
    exact ⟨u, rfl, go_of (s := { s with heap := h' }) e c d (by decide) ⟨x, H, I1, ru, ⟨rfl, fun ys hy => by rw [I.list_inj hy hq]; exact hx⟩, st', fun b hb => (hf b hb).1⟩⟩
  done := by
    intro X hP hw hK hc i pins s σ H E I hf st hg
    subst hP hw hK
    obtain ⟨xs, hq, hx⟩ := hg
    obtain ⟨its, rv, p, hz⟩ := I.list hq
    obtain ⟨f0, f1, f2, f3, f4, f5⟩ := hf it (by simp)
    have hl := rv.length
    exact wpAny_pyNext_list_end (I.ok.hd hc) st p.isList (by simp; omega) fun h' eb => ⟨rfl, I.turned (t' := s.toks) (fun b o hb e => eb b o hb e) f0 f1 f3 f4 f5⟩
  self := fun _ _ _ _ _ st h => wpAny_pyIter_listiter st h
theorem turn_range {P : Program} {w : World} {K : PySem.W.Frag} {tg : Expr} (it : Addr) (lo : Int) (n : Nat) : Turn P w K tg (Itr lo n) [it] it (fun i h => IsRangeIter h it (lo + (i : Nat) * 1) ((n : Int) - (i : Nat)) 1) where
  mem := by simp
  obj := fun i h st b hb => by
    have e : b = it := by simpa using hb
    subst e
    exact ⟨_, st, fun v z => by
      have z' : Data.fields _ = Data.cell v := z
      cases z'⟩
  keep := fun i h h' st k => k it (by simp) _ st
  item := by
    intro X hP hw hK hc i pins s σ H E I hf st hg
    subst hP hw hK
    obtain ⟨f0, f1, f2, f3, f4, f5⟩ := hf it (by simp)
    have W := Walks.range (prog := X.prog) (w := X.w) (I.ok.hd hc) it lo 1 n
    refine W.item i s _ _ hg st fun v h' tk hv st' kk => ?_
    obtain ⟨t, rfl⟩ := hv
    have I1 : Inv X pins σ H { s with heap := h', toks := tk } := I.turned (fun b o hb e => kk b o (by simpa using hb) e) f0 f1 f3 f4 f5
    refine ⟨_, rfl, go_of (s := { s with heap := h', toks := tk }) (n := "range_iterator") st' rfl rfl (by decide) ⟨.int (lo + i), H, I1, ⟨t, ?_⟩, ⟨rfl, rfl⟩, st', fun b hb => (hf b hb).1⟩⟩
    rw [Int.mul_one]
  done := by
    intro X hP hw hK hc i pins s σ H E I hf st hg
    subst hP hw hK
    obtain ⟨f0, f1, f2, f3, f4, f5⟩ := hf it (by simp)
    exact wpAny_pyNext_range_end (I.ok.hd hc) st (by have : n ≤ i := hg; omega) fun h' eb => ⟨rfl, I.turned (t' := s.toks) (fun b o hb e => eb b o hb e) f0 f1 f3 f4 f5⟩
  self := fun _ _ _ _ _ st h => wpAny_pyIter_rangeiter st h
end L2
namespace L2
open PySem PySem.Spec PyProof.Rows
section
variable {X : Cx} {tg : Expr}
def iList (K : PySem.W.Frag) (tl : TE) : TI := fun σ H R => tl σ H fun x H1 => ∃ a, x = .ref a ∧ (∃ xs, SqL K H1 a xs) ∧ R (Itl K a) H1
def iTup (K : PySem.W.Frag) (tl : TE) : TI := fun σ H R => tl σ H fun x H1 => ∃ a, x = .ref a ∧ (∃ xs, SqT K H1 a xs) ∧ R (Itt K a) H1
theorem pi_list {l : Expr} {tl : TE} (hl : PE X l tl) : PI X tg l (iList X.K tl) := by
  intro pins s σ H R I h
  refine thn (hl pins s σ H _ I h) fun v s1 ⟨x, H1, I1, r1, q1⟩ => ?_
  obtain ⟨a, e, ⟨xs, hq⟩, q⟩ := q1
  subst e
  cases r1
  obtain ⟨its, rv, p, hz⟩ := I1.list hq
  refine wpAny_pyIter_list p.isList ?_
  refine ⟨s1.heap.objs.size, [s1.heap.objs.size], _, _, H1, rfl, I1.kept (t' := s1.toks) fun b o e => Heap.get?_push_of_some _ e, turn_list a _, ⟨_, Heap.get?_push_size _ rfl, rfl, rfl⟩, fun b hb => ?_, q⟩
  have e : b = s1.heap.objs.size := by simpa using hb
  subst e
  exact I1.fpOk (Nat.le_refl _) (I1.hok.fresh (Nat.le_refl _))
theorem range_it {pins : List (Addr × Obj)} {σ : St} {H : Hp} {s : Shared} {R : It → Hp → Prop} {E : Value → Shared → Prop} {lo hi : Int} {t u v : Tok} {tk : Nat} (I : Inv X pins σ H s) (h1 : -(2 ^ 62) ≤ lo) (h2 : lo < 2 ^ 62) (h3 : -(2 ^ 62) ≤ hi) (h4 : hi < 2 ^ 62)
    (q : R (Itr lo (hi - lo).toNat) H) : wpAny (model X.prog X.w) X.A (pyIter (.ref s.heap.objs.size)) (PIE X pins σ tg R) E { s with heap := s.heap.push { cls := .type "range", data := .fields #[.int lo t, .int hi u, .int 1 v] }, toks := tk } := by
  refine wpAny_pyIter_range (IsRange.new ..) (small_one h1 h2 h3 h4) ?_
  have I1 : Inv X pins σ H { s with heap := s.heap.push { cls := .type "range", data := .fields #[.int lo t, .int hi u, .int 1 v] }, toks := tk } := I.kept fun b o e => Heap.get?_push_of_some _ e
  refine ⟨(s.heap.push { cls := .type "range", data := .fields #[.int lo t, .int hi u, .int 1 v] }).objs.size, [(s.heap.push { cls := .type "range", data := .fields #[.int lo t, .int hi u, .int 1 v] }).objs.size], _, _, H, rfl,
    I1.kept (t' := tk) fun b o e => Heap.get?_push_of_some _ e, turn_range _ lo (hi - lo).toNat, ?_, fun b hb => ?_, q⟩
  · have e1 : lo + ((0 : Nat) : Int) * 1 = lo := by simp
    have e2 : (((hi - lo).toNat : Nat) : Int) - ((0 : Nat) : Int) = Builtin.Range.rangeSize lo hi 1 := by rw [rangeSize_one]; split <;> omega
    show IsRangeIter _ _ (lo + ((0 : Nat) : Int) * 1) ((((hi - lo).toNat : Nat) : Int) - ((0 : Nat) : Int)) 1
    rw [e1, e2]
    exact Heap.get?_push_size _ rfl
  · have e : b = (s.heap.push { cls := .type "range", data := .fields #[.int lo t, .int hi u, .int 1 v] }).objs.size := by simpa using hb
    subst e
    exact I1.fpOk (Nat.le_refl _) (I1.hok.fresh (Nat.le_refl _))
def iRng1 (ta : TA) : TI := fun σ H R => ta σ H fun vs H1 => ∃ j : Int, vs = [.int j] ∧ -(2 ^ 62) ≤ j ∧ j < 2 ^ 62 ∧ R (Itr 0 j.toNat) H1
def iRng2 (ta : TA) : TI := fun σ H R => ta σ H fun vs H1 => ∃ i j : Int, vs = [.int i, .int j] ∧ (-(2 ^ 62) ≤ i ∧ i < 2 ^ 62 ∧ -(2 ^ 62) ≤ j ∧ j < 2 ^ 62) ∧ R (Itr i (j - i).toNat) H1
theorem pi_range1 {a : Expr} {ta : TA} {p pos : Pos} (hg : Gl X "range") (hm : X.mg "range" = none) (ha : PA X [a] ta) (hs : starEach [a] X.env = [(false, eval a X.env)] := by rfl) : PI X tg (.Call (.Name "range" p) [a] [] pos) (iRng1 ta) := by
  intro pins s σ H R I h
  refine Call_ (ld_blt I hg hm boot_range (PyProof.Rows.callWith_type1 (thn (ha pos pins s σ H _ I h) fun us s1 ⟨vs, H1, I1, r1, q1⟩ => ?_) hs rfl))
  obtain ⟨j, e, q1, q2, q⟩ := q1
  subst e
  cases r1 with
  | cons r rr =>
    cases rr
    obtain ⟨t, rfl⟩ := r
    exact call_range_1 (range_it I1 (by omega) (by omega) q1 q2 (by simpa using q))
def tFor (wi : TI) (g : TG) (tb : TS) : TS := fun D σ H => wi σ H fun J H1 => ∃ W : Nat → Nat → St → Hp → Prop, (∃ m, W 0 m σ H1) ∧ ∀ i m σ H, W i m σ H →
  (J.stop i H ∧ D.nx σ H) ∨ (J.go i H ∧ ∃ N : St → Hp → Prop, (∀ σ' H', N σ' H' → ∃ m', m' < m ∧ W (i + 1) m' σ' H') ∧ ∀ x H', J.yld i H x H' → g x σ H' fun σ2 H2 => tb { D with nx := N, ct := N, bk := D.nx } σ2 H2)
def pinsAt (fp : List Addr) (h : Heap) : List (Addr × Obj) := fp.filterMap fun b => (h.get? b).map fun o => (b, o)
theorem mem_pinsAt {fp : List Addr} {h : Heap} {b : Addr} {o : Obj} (hb : b ∈ fp) (e : h.get? b = some o) : (b, o) ∈ pinsAt fp h := List.mem_filterMap.mpr ⟨b, hb, by rw [e]; rfl⟩
theorem of_pinsAt {fp : List Addr} {h : Heap} {p : Addr × Obj} (hp : p ∈ pinsAt fp h) : p.1 ∈ fp ∧ h.get? p.1 = some p.2 := by
  obtain ⟨b, hb, e⟩ := List.mem_filterMap.mp hp
  cases q : h.get? b with
  | none => rw [q] at e; cases e
  | some o =>
    rw [q] at e
    have e' : (b, o) = p := Option.some.inj e
    subst e'
    exact ⟨hb, q⟩
theorem Inv.pinned {pins : List (Addr × Obj)} {σ : St} {H : Hp} {s : Shared} {fp : List Addr} (I : Inv X pins σ H s) (hf : ∀ b ∈ fp, FpOk X pins H b) (ho : ∀ b ∈ fp, ∃ o, s.heap.get? b = some o ∧ ∀ v, o.data ≠ .cell v) : Inv X (pins ++ pinsAt fp s.heap) σ H s :=
  I.pins_of fun p hp => (List.mem_append.mp hp).elim (fun z => I.pin p (List.mem_append_right _ z)) fun z => by
    obtain ⟨hb, e⟩ := of_pinsAt z
    obtain ⟨f0, f1, f2, _⟩ := hf p.1 hb
    obtain ⟨o, e', d⟩ := ho p.1 hb
    rw [e] at e'; cases e'
    exact ⟨e, f0, f1, f2, d⟩
theorem Inv.unpinned {pins pl : List (Addr × Obj)} {σ : St} {H : Hp} {s : Shared} (I : Inv X (pins ++ pl) σ H s) : Inv X pins σ H s := I.pins_of fun p hp => I.pin p (List.mem_append_right _ (List.mem_append_left _ hp))
theorem ps_for {iter : Expr} {body : List Stmt} {wi : TI} {g : TG} {tb : TS} {pos : Pos} (hp : PassesOwn (model X.prog X.w) X.A X.env X.xe) (hc : X.calm = true) (hi : PI X tg iter wi) (hg : PG X tg g) (hb : PSs X body tb)
    (hs : ∀ x, foldedSetIterable iter X.env x = pure x := by intro _; rfl) : PS X (.For tg iter body [] pos) (tFor wi g tb) := by
  intro pins s σ H D I h
  refine wpAny_For (thn (hi pins s σ H _ I h) fun v s1 h1 => thn h1 fun itv s2 h2 => ?_) hs
  obtain ⟨it, fp, tn, J, H2, e, I2, T, st2, f2, W, ⟨m0, w0⟩, turn⟩ := h2
  subst e
  -- what stays true of the iterator's objects through the loop
  have stat : ∀ {H' : Hp}, (∀ b ∈ fp, H' b = none) → ∀ b ∈ fp, FpOk X pins H' b := fun hn b hb => ⟨hn b hb, (f2 b hb).2⟩
  refine codeAny_forLoop_any (fun n s' => ∃ i σ' H', Inv X pins σ' H' s' ∧ tn i s'.heap ∧ (∀ b ∈ fp, H' b = none) ∧ W i n σ' H') ?_ m0 ⟨0, σ, H2, I2, st2, fun b hb => (f2 b hb).1, w0⟩
  rintro n s3 ⟨i, σ3, H3, I3, st3, fr3, w3⟩
  rcases turn i n σ3 H3 w3 with ⟨stop, qn⟩ | ⟨go, N, hN, step⟩
  · refine wpAny_passesOwn hp (thn (T.done X rfl rfl rfl hc i pins s3 σ3 H3 X.xe I3 (stat fr3) st3 stop) fun r s4 ⟨hr, I4⟩ => ?_)
    subst hr
    exact wpAny_execs_nil ⟨σ3, H3, I4, qn⟩
  · refine wpAny_passesOwn hp (thn (T.item X rfl rfl rfl hc i pins s3 σ3 H3 X.xe I3 (stat fr3) st3 go) fun r s4 ⟨u, hr, h4⟩ => ?_)
    subst hr
    refine wpAny_passesOwn hp (thn h4 fun _ s5 ⟨x, H5, I5, r5, y5, st5, fr5⟩ => ?_)
    have I5' := I5.pinned (stat fr5) (T.obj _ _ st5)
    refine wpAny_passesOwn hp (thn (hg _ s5 σ3 H5 x u _ I5' r5 (step x H5 y5)) fun _ s6 ⟨σ6, H6, I6, q6⟩ => ?_)
    refine wpAny_passesOwn hp (thn (hb _ s6 σ6 H6 _ I6 q6) fun f s7 q7 => ?_)
    have again : ∀ {σ7 : St} {H7 : Hp}, Inv X (pins ++ pinsAt fp s5.heap) σ7 H7 s7 → N σ7 H7 → ∃ m, m < n ∧ ∃ i σ' H', Inv X pins σ' H' s7 ∧ tn i s7.heap ∧ (∀ b ∈ fp, H' b = none) ∧ W i m σ' H' := fun {σ7 H7} I7 n7 => by
      obtain ⟨m', hm, w7⟩ := hN σ7 H7 n7
      refine ⟨m', hm, i + 1, σ7, H7, I7.unpinned, T.keep _ _ _ st5 fun b hb o e => (I7.pin (b, o) (List.mem_append_right _ (List.mem_append_right _ (mem_pinsAt hb e)))).1, fun b hb => ?_, w7⟩
      obtain ⟨o, e, d⟩ := T.obj _ _ st5 b hb
      exact (I7.pin (b, o) (List.mem_append_right _ (List.mem_append_right _ (mem_pinsAt hb e)))).2.1
    cases f with
    | next => obtain ⟨σ7, H7, I7, n7⟩ := q7; exact again I7 n7
    | cont => obtain ⟨σ7, H7, I7, n7⟩ := q7; exact again I7 n7
    | brk => obtain ⟨σ7, H7, I7, q7⟩ := q7; exact ⟨σ7, H7, I7.unpinned, q7⟩
    | ret v => obtain ⟨x7, σ7, H7, I7, r7, q7⟩ := q7; exact ⟨x7, σ7, H7, I7.unpinned, r7, q7⟩
end
theorem for_list {K : PySem.W.Frag} {a : Addr} {xs : List V} {g : TG} {tb : TS} {D : Ends} {σ : St} {H : Hp} (Pv : Nat → St → Hp → Prop) (h0 : Pv 0 σ H) (hl : ∀ i σ H, i ≤ xs.length → Pv i σ H → SqL K H a xs)
    (hs : ∀ i x σ H, xs[i]? = some x → Pv i σ H → g x σ H fun σ2 H2 => tb { D with nx := Pv (i + 1), ct := Pv (i + 1), bk := D.nx } σ2 H2) (hd : ∀ σ H, Pv xs.length σ H → D.nx σ H) :
    ∃ W : Nat → Nat → St → Hp → Prop, (∃ m, W 0 m σ H) ∧ ∀ i m σ H, W i m σ H →
      ((Itl K a).stop i H ∧ D.nx σ H) ∨ ((Itl K a).go i H ∧ ∃ N : St → Hp → Prop, (∀ σ' H', N σ' H' → ∃ m', m' < m ∧ W (i + 1) m' σ' H') ∧ ∀ x H', (Itl K a).yld i H x H' → g x σ H' fun σ2 H2 => tb { D with nx := N, ct := N, bk := D.nx } σ2 H2) := by
  refine ⟨fun i m σ H => m = xs.length - i ∧ i ≤ xs.length ∧ Pv i σ H, ⟨xs.length, by simp, Nat.zero_le _, h0⟩, ?_⟩
  rintro i m σ H ⟨rfl, hi, p⟩
  have q := hl i σ H hi p
  by_cases hlt : i < xs.length
  · refine .inr ⟨⟨xs, xs[i], q, by simp [hlt]⟩, Pv (i + 1), fun σ' H' p' => ⟨xs.length - (i + 1), by omega, rfl, hlt, p'⟩, fun x H' y => ?_⟩
    obtain ⟨e, y⟩ := y
    subst e
    exact hs i x σ _ (y xs q) p
  · have e : i = xs.length := by omega
    subst e
    exact .inl ⟨⟨xs, q, Nat.le_refl _⟩, hd σ H p⟩
theorem for_range {lo : Int} {n : Nat} {g : TG} {tb : TS} {D : Ends} {σ : St} {H : Hp} (Pv : Nat → St → Hp → Prop) (h0 : Pv 0 σ H)
    (hs : ∀ i σ H, i < n → Pv i σ H → g (.int (lo + i)) σ H fun σ2 H2 => tb { D with nx := Pv (i + 1), ct := Pv (i + 1), bk := D.nx } σ2 H2) (hd : ∀ σ H, Pv n σ H → D.nx σ H) :
    ∃ W : Nat → Nat → St → Hp → Prop, (∃ m, W 0 m σ H) ∧ ∀ i m σ H, W i m σ H →
      ((Itr lo n).stop i H ∧ D.nx σ H) ∨ ((Itr lo n).go i H ∧ ∃ N : St → Hp → Prop, (∀ σ' H', N σ' H' → ∃ m', m' < m ∧ W (i + 1) m' σ' H') ∧ ∀ x H', (Itr lo n).yld i H x H' → g x σ H' fun σ2 H2 => tb { D with nx := N, ct := N, bk := D.nx } σ2 H2) := by
  refine ⟨fun i m σ H => m = n - i ∧ i ≤ n ∧ Pv i σ H, ⟨n, by simp, Nat.zero_le _, h0⟩, ?_⟩
  rintro i m σ H ⟨rfl, hi, p⟩
  by_cases hlt : i < n
  · refine .inr ⟨hlt, Pv (i + 1), fun σ' H' p' => ⟨n - (i + 1), by omega, rfl, hlt, p'⟩, fun x H' y => ?_⟩
    obtain ⟨e, y⟩ := y
    subst e y
    exact hs i σ _ hlt p
  · have e : i = n := by omega
    subst e
    exact .inl ⟨Nat.le_refl _, hd σ H p⟩
end L2
namespace L2
open PySem PySem.Spec PyProof.Rows
abbrev R2 := V → V → Hp → VK → Prop
def OpR (X : Cx) (f : Value → Value → Sem Value) (r : R2) : Prop :=
  ∀ (pins : List (Addr × Obj)) (s : Shared) (σ : St) (H : Hp) (x y : V) (v u : Value) (Q : VK), Inv X pins σ H s → RelV x v → RelV y u → r x y H Q →
    wpAny (model X.prog X.w) X.A (f v u) (EP X pins σ Q) X.xe s
def UnR (X : Cx) (f : Value → Sem Value) (r : V → Hp → VK → Prop) : Prop :=
  ∀ (pins : List (Addr × Obj)) (s : Shared) (σ : St) (H : Hp) (x : V) (v : Value) (Q : VK), Inv X pins σ H s → RelV x v → r x H Q →
    wpAny (model X.prog X.w) X.A (f v) (EP X pins σ Q) X.xe s
def CallR (X : Cx) (f : Value) (r : List V → Hp → VK → Prop) : Prop :=
  ∀ (pins : List (Addr × Obj)) (s : Shared) (σ : St) (H : Hp) (xs : List V) (us : List Value) (Q : VK), Inv X pins σ H s → Vals xs us → r xs H Q →
    wpAny (model X.prog X.w) X.A (call f us) (EP X pins σ Q) X.xe s
def tOp (r : R2) (ta tb : TE) : TE := fun σ H Q => ta σ H fun x H1 => tb σ H1 fun y H2 => r x y H2 Q
def tUn (r : V → Hp → VK → Prop) (ta : TE) : TE := fun σ H Q => ta σ H fun x H1 => r x H1 Q
def rI (C : Int → Int → Prop) (g : Int → Int → V) : R2 := fun x y H Q => ∃ i j, x = .int i ∧ y = .int j ∧ C i j ∧ Q (g i j) H
def rI0 (g : Int → Int → V) : R2 := fun x y H Q => ∃ i j, x = .int i ∧ y = .int j ∧ Q (g i j) H
def rU (g : Int → V) : V → Hp → VK → Prop := fun x H Q => ∃ i, x = .int i ∧ Q (g i) H
section
variable {X : Cx} {a b c : Expr} {ta tb tc : TE} {pos : Pos}
theorem binT (ha : PE X a ta) (hb : PE X b tb) {pins : List (Addr × Obj)} {s : Shared} {σ : St} {H : Hp} {R : V → V → Hp → Prop} (I : Inv X pins σ H s)
    (h : ta σ H fun x H1 => tb σ H1 fun y H2 => R x y H2) {Q : Value → Shared → Prop} {f : Value → Value → Sem Value}
    (hf : ∀ v u s2 x y H2, Inv X pins σ H2 s2 → RelV x v → RelV y u → R x y H2 → wpAny (model X.prog X.w) X.A (f v u) Q X.xe s2) :
    wpAny (model X.prog X.w) X.A (eval a X.env) (fun v s₁ => wpAny (model X.prog X.w) X.A (eval b X.env) (fun u s₂ => wpAny (model X.prog X.w) X.A (f v u) Q X.xe s₂) X.xe s₁) X.xe s := by
  refine thn (ha pins s σ H _ I h) fun v s1 ⟨x, H1, I1, r1, q1⟩ => ?_
  refine thn (hb pins s1 σ H1 _ I1 q1) fun u s2 ⟨y, H2, I2, r2, q2⟩ => ?_
  exact hf v u s2 x y H2 I2 r1 r2 q2
theorem pe_op {op : Operator} {r : R2} (ho : OpR X (binaryOp op) r) (ha : PE X a ta) (hb : PE X b tb) : PE X (.BinOp a op b pos) (tOp r ta tb) := by
  intro pins s σ H Q I h
  exact wpAny_BinOp (binT ha hb I h fun v u s2 x y H2 I2 rx ry q => ho pins s2 σ H2 x y v u Q I2 rx ry q)
theorem pe_un {op : UnaryOp} {r : V → Hp → VK → Prop} (ho : UnR X (unaryOp op) r) (ha : PE X a ta) : PE X (.UnaryOp op a pos) (tUn r ta) := by
  intro pins s σ H Q I h
  exact UnaryOp_ (thn (ha pins s σ H _ I h) fun v s1 ⟨x, H1, I1, r1, q1⟩ => ho pins s1 σ H1 x v Q I1 r1 q1)
theorem opI {f : Value → Value → Sem Value} {C : Int → Int → Prop} {g : Int → Int → Int}
    (rule : ∀ (i j : Int) (t u : Tok) (s : Shared) (Q : Value → Shared → Prop) (E : Value → Shared → Prop), C i j → Q (.int (g i j) s.toks) { s with toks := s.toks + 1 } → wpAny (model X.prog X.w) X.A (f (.int i t) (.int j u)) Q E s) :
    OpR X f (rI C fun i j => .int (g i j)) := by
  intro pins s σ H x y v u Q I rx ry h
  obtain ⟨i, j, rfl, rfl, hc, q⟩ := h
  obtain ⟨t, rfl⟩ := rx
  obtain ⟨t', rfl⟩ := ry
  exact rule i j t t' s _ _ hc ⟨.int (g i j), H, I.tok _, ⟨_, rfl⟩, q⟩
theorem opI0 {f : Value → Value → Sem Value} {g : Int → Int → Int}
    (rule : ∀ (i j : Int) (t u : Tok) (s : Shared) (Q : Value → Shared → Prop) (E : Value → Shared → Prop), Q (.int (g i j) s.toks) { s with toks := s.toks + 1 } → wpAny (model X.prog X.w) X.A (f (.int i t) (.int j u)) Q E s) :
    OpR X f (rI0 fun i j => .int (g i j)) := by
  intro pins s σ H x y v u Q I rx ry h
  obtain ⟨i, j, rfl, rfl, q⟩ := h
  obtain ⟨t, rfl⟩ := rx
  obtain ⟨t', rfl⟩ := ry
  exact rule i j t t' s _ _ ⟨.int (g i j), H, I.tok _, ⟨_, rfl⟩, q⟩
theorem opB0 {f : Value → Value → Sem Value} {g : Int → Int → Bool}
    (rule : ∀ (i j : Int) (t u : Tok) (s : Shared) (Q : Value → Shared → Prop) (E : Value → Shared → Prop), Q (.bool (g i j)) s → wpAny (model X.prog X.w) X.A (f (.int i t) (.int j u)) Q E s) :
    OpR X f (rI0 fun i j => .bl (g i j)) := by
  intro pins s σ H x y v u Q I rx ry h
  obtain ⟨i, j, rfl, rfl, q⟩ := h
  obtain ⟨t, rfl⟩ := rx
  obtain ⟨t', rfl⟩ := ry
  exact rule i j t t' s _ _ ⟨.bl (g i j), H, I, rfl, q⟩
def CMul (i j : Int) : Prop := (-(2 ^ 64) < i ∧ i < 2 ^ 64) ∨ (-(2 ^ 64) < j ∧ j < 2 ^ 64)
theorem CMul.ok {i j : Int} (h : CMul i j) : IntMulOk i j := by
  rcases h with ⟨h1, h2⟩ | ⟨h1, h2⟩
  · exact .of_left (intBits_le_64 h1 h2)
  · exact .of_right (intBits_le_64 h1 h2)
theorem op_add : OpR X (binaryOp .Add) (rI0 fun i j => .int (i + j)) := opI0 fun _ _ _ _ _ _ _ q => add_int q
theorem op_sub : OpR X (binaryOp .Sub) (rI0 fun i j => .int (i - j)) := opI0 fun _ _ _ _ _ _ _ q => sub_int q
theorem op_mod : OpR X (binaryOp .Mod) (rI (fun _ j => 0 < j) fun i j => .int (i % j)) := opI fun i j _ _ _ _ _ hc q => by
  have h1 : (0 : Int) < j := hc
  exact mod_int' (by omega) (by rw [Int.fmod_eq_emod_of_nonneg i (by omega)]; exact q)
theorem unI {f : Value → Sem Value} {g : Int → Int}
    (rule : ∀ (i : Int) (t : Tok) (s : Shared) (Q : Value → Shared → Prop) (E : Value → Shared → Prop), Q (.int (g i) s.toks) { s with toks := s.toks + 1 } → wpAny (model X.prog X.w) X.A (f (.int i t)) Q E s) :
    UnR X f (rU fun i => .int (g i)) := by
  intro pins s σ H x v Q I rx h
  obtain ⟨i, rfl, q⟩ := h
  obtain ⟨t, rfl⟩ := rx
  exact rule i t s _ _ ⟨.int (g i), H, I.tok _, ⟨_, rfl⟩, q⟩
theorem un_neg : UnR X (unaryOp .USub) (rU fun i => .int (-i)) := unI fun _ _ _ _ _ q => neg_int q
end
def scal : V → V → Bool
  | .non, .non => true | .non, .int _ => true | .int _, .non => true | .non, .bl _ => true | .bl _, .non => true | .non, .str _ => true | .str _, .non => true
  | .int _, .int _ => true | .bl _, .bl _ => true | .str _, .str _ => true | .byt _, .byt _ => true
  | .int _, .str _ => true | .str _, .int _ => true | .bl _, .str _ => true | .str _, .bl _ => true
  | _, _ => false
def rEq : R2 := fun x y H Q => scal x y = true ∧ Q (.bl (decide (x = y))) H
def rNe : R2 := fun x y H Q => scal x y = true ∧ Q (.bl (!decide (x = y))) H
theorem dec_int {i j : Int} : decide (V.int i = V.int j) = (i == j) := by
  rw [Bool.eq_iff_iff]
  simp
theorem dec_bl {i j : Bool} : decide (V.bl i = V.bl j) = (i == j) := by
  rw [Bool.eq_iff_iff]
  simp
theorem dec_str {i j : Str} : decide (V.str i = V.str j) = (i == j) := by
  rw [Bool.eq_iff_iff]
  simp
theorem dec_byt {i j : Array UInt8} : decide (V.byt i = V.byt j) = (i.toList == j.toList) := by
  rw [Bool.eq_iff_iff]
  cases i
  cases j
  simp
section
variable {X : Cx} {a b c : Expr} {ta tb tc : TE} {pos : Pos}
theorem fin_bl {pins : List (Addr × Obj)} {σ : St} {H : Hp} {s : Shared} {Q : VK} {k k' : Bool} (I : Inv X pins σ H s) (q : Q (.bl k) H) (e : k = k') : EP X pins σ Q (.bool k') s := by
  subst e
  exact ⟨.bl k, H, I, rfl, q⟩
theorem op_eq : OpR X (compareOp .Eq) rEq := by
  intro pins s σ H x y v u Q I rx ry h
  obtain ⟨hs, q⟩ := h
  cases x with
  | non =>
    cases rx
    cases y with
    | non => cases ry; exact PySem.EqNone.eq_none_none (fin_bl I q (by simp))
    | bl j => cases ry; exact PySem.EqNone.eq_none_bool (fin_bl I q (by simp))
    | int j => obtain ⟨t', rfl⟩ := ry; exact PySem.EqNone.eq_none_int (fin_bl I q (by simp))
    | str j => obtain ⟨t', rfl⟩ := ry; exact PySem.EqNone.eq_none_str (fin_bl I q (by simp))
    | _ => exact absurd (show false = true from hs) Bool.false_ne_true
  | bl i =>
    cases rx
    cases y with
    | non => cases ry; exact PySem.EqNone.eq_bool_none (fin_bl I q (by simp))
    | bl j => cases ry; exact eq_bool (fin_bl I q dec_bl)
    | str j => obtain ⟨t', rfl⟩ := ry; exact PySem.EqMixed.eq_bool_str (fin_bl I q (by simp))
    | _ => exact absurd (show false = true from hs) Bool.false_ne_true
  | int i =>
    obtain ⟨t, rfl⟩ := rx
    cases y with
    | non => cases ry; exact PySem.EqNone.eq_int_none (fin_bl I q (by simp))
    | int j => obtain ⟨t', rfl⟩ := ry; exact eq_int (fin_bl I q dec_int)
    | str j => obtain ⟨t', rfl⟩ := ry; exact PySem.EqMixed.eq_int_str (fin_bl I q (by simp))
    | _ => exact absurd (show false = true from hs) Bool.false_ne_true
  | str i =>
    obtain ⟨t, rfl⟩ := rx
    cases y with
    | non => cases ry; exact PySem.EqNone.eq_str_none (fin_bl I q (by simp))
    | bl j => cases ry; exact PySem.EqMixed.eq_str_bool (fin_bl I q (by simp))
    | int j => obtain ⟨t', rfl⟩ := ry; exact PySem.EqMixed.eq_str_int (fin_bl I q (by simp))
    | str j => obtain ⟨t', rfl⟩ := ry; exact eq_str (fin_bl I q dec_str)
    | _ => exact absurd (show false = true from hs) Bool.false_ne_true
  | byt i =>
    obtain ⟨t, rfl⟩ := rx
    cases y with
    | byt j => obtain ⟨t', rfl⟩ := ry; exact PySem.W.eq_bytes (fin_bl I q dec_byt)
    | _ => exact absurd (show false = true from hs) Bool.false_ne_true
  | _ => cases y <;> exact absurd (show false = true from hs) Bool.false_ne_true
theorem op_ne : OpR X (compareOp .NotEq) rNe := by
  intro pins s σ H x y v u Q I rx ry h
  obtain ⟨hs, q⟩ := h
  cases x with
  | non =>
    cases rx
    cases y with
    | non => cases ry; exact PySem.EqNone.ne_none_none (fin_bl I q (by simp))
    | bl j => cases ry; exact PySem.EqNone.ne_none_bool (fin_bl I q (by simp))
    | int j => obtain ⟨t', rfl⟩ := ry; exact PySem.EqNone.ne_none_int (fin_bl I q (by simp))
    | str j => obtain ⟨t', rfl⟩ := ry; exact PySem.EqNone.ne_none_str (fin_bl I q (by simp))
    | _ => exact absurd (show false = true from hs) Bool.false_ne_true
  | bl i =>
    cases rx
    cases y with
    | non => cases ry; exact PySem.EqNone.ne_bool_none (fin_bl I q (by simp))
    | bl j => cases ry; exact ne_bool (fin_bl I q (congrArg not dec_bl))
    | str j => obtain ⟨t', rfl⟩ := ry; exact PySem.EqMixed.ne_bool_str (fin_bl I q (by simp))
    | _ => exact absurd (show false = true from hs) Bool.false_ne_true
  | int i =>
    obtain ⟨t, rfl⟩ := rx
    cases y with
    | non => cases ry; exact PySem.EqNone.ne_int_none (fin_bl I q (by simp))
    | int j => obtain ⟨t', rfl⟩ := ry; exact ne_int (fin_bl I q (congrArg not dec_int))
    | str j => obtain ⟨t', rfl⟩ := ry; exact PySem.EqMixed.ne_int_str (fin_bl I q (by simp))
    | _ => exact absurd (show false = true from hs) Bool.false_ne_true
  | str i =>
    obtain ⟨t, rfl⟩ := rx
    cases y with
    | non => cases ry; exact PySem.EqNone.ne_str_none (fin_bl I q (by simp))
    | bl j => cases ry; exact PySem.EqMixed.ne_str_bool (fin_bl I q (by simp))
    | int j => obtain ⟨t', rfl⟩ := ry; exact PySem.EqMixed.ne_str_int (fin_bl I q (by simp))
    | str j => obtain ⟨t', rfl⟩ := ry; exact ne_str (fin_bl I q (congrArg not dec_str))
    | _ => exact absurd (show false = true from hs) Bool.false_ne_true
  | byt i =>
    obtain ⟨t, rfl⟩ := rx
    cases y with
    | byt j => obtain ⟨t', rfl⟩ := ry; exact PySem.W.ne_bytes (fin_bl I q (congrArg not dec_byt))
    | _ => exact absurd (show false = true from hs) Bool.false_ne_true
  | _ => cases y <;> exact absurd (show false = true from hs) Bool.false_ne_true
theorem op_lt : OpR X (compareOp .Lt) (rI0 fun i j => .bl (decide (i < j))) := opB0 fun _ _ _ _ _ _ _ q => lt_int q
theorem op_gt : OpR X (compareOp .Gt) (rI0 fun i j => .bl (decide (j < i))) := opB0 fun _ _ _ _ _ _ _ q => gt_int q
theorem OpR.or {f : Value → Value → Sem Value} {r r' : R2} (h : OpR X f r) (h' : OpR X f r') : OpR X f (fun x y H Q => r x y H Q ∨ r' x y H Q) := by
  intro pins s σ H x y v u Q I rx ry q
  rcases q with q | q
  · exact h pins s σ H x y v u Q I rx ry q
  · exact h' pins s σ H x y v u Q I rx ry q
theorem nomark (b : Expr) {op : CmpOp} (h : op ≠ .In := by decide) (h2 : op ≠ .NotIn := by decide) : behindInMarks op b = false := by
  have e1 : (op == CmpOp.In) = false := by cases op <;> first | rfl | exact absurd rfl h
  have e2 : (op == CmpOp.NotIn) = false := by cases op <;> first | rfl | exact absurd rfl h2
  cases b <;> simp [behindInMarks, e1, e2]
theorem pe_cmpR {op : CmpOp} {r : R2} (ho : OpR X (compareOp op) r) (ha : PE X a ta) (hb : PE X b tb) (hm : behindInMarks op b = false) : PE X (.Compare a [op] [b] pos) (tOp r ta tb) := by
  intro pins s σ H Q I h
  exact wpAny_Compare1 (binT ha hb I h fun v u s2 x y H2 I2 rx ry q => ho pins s2 σ H2 x y v u Q I2 rx ry q) hm
def tTest (t : TE) : TT := fun σ H Q => t σ H fun x H' => ∃ k, x = .bl k ∧ Q k H'
theorem pt_cmpR {op : CmpOp} {r : R2} (ho : OpR X (compareOp op) r) (ha : PE X a ta) (hb : PE X b tb) (hm : behindInMarks op b = false) : PT X (.Compare a [op] [b] pos) (tTest (tOp r ta tb)) := by
  intro pins s σ H Q I h
  refine wpAny_isTrue_Compare1 (thn (ha pins s σ H _ I h) fun v s1 ⟨x, H1, I1, r1, q1⟩ => thn (hb pins s1 σ H1 _ I1 q1) fun u s2 ⟨y, H2, I2, r2, q2⟩ =>
    thn (ho pins s2 σ H2 x y v u _ I2 r1 r2 q2) fun c s3 ⟨z, H3, I3, r3, k, e, q3⟩ => ?_) hm
  subst e
  cases r3
  exact wpAny_truthy_bool ⟨H3, I3, q3⟩
def tChain (r r' : R2) (ta tb tc : TE) : TE := fun σ H Q => ta σ H fun x H1 => tb σ H1 fun y H2 => r x y H2 fun z H3 => ∃ k, z = .bl k ∧
  (if k = true then tc σ H3 fun w' H4 => r' y w' H4 Q else Q (.bl false) H3)
theorem line63 : (sizeLine : Nat) < 2 ^ 63 := by rw [sizeLine_eq]; decide
theorem vals1 {x : V} {us : List Value} (r : Vals [x] us) : ∃ u, us = [u] ∧ RelV x u := by
  cases r with
  | cons r1 r2 => cases r2; exact ⟨_, rfl, r1⟩
theorem vals2 {x y : V} {us : List Value} (r : Vals [x, y] us) : ∃ u w', us = [u, w'] ∧ RelV x u ∧ RelV y w' := by
  cases r with
  | cons r1 r2 =>
    cases r2 with
    | cons r3 r4 => cases r4; exact ⟨_, _, rfl, r1, r3⟩
theorem call_abs : CallR X (.builtin "abs") (fun xs H Q => ∃ i, xs = [.int i] ∧ Q (.int (if i < 0 then -i else i)) H) := by
  intro pins s σ H xs us Q I r h
  obtain ⟨i, rfl, q⟩ := h
  obtain ⟨u, rfl, t, rfl⟩ := vals1 r
  exact call_abs_int fun u tk => ⟨.int (if i < 0 then -i else i), H, I.tok _, ⟨_, rfl⟩, q⟩
theorem call_min2 (hc : X.calm = true) : CallR X (.builtin "min") (fun xs H Q => ∃ i j, xs = [.int i, .int j] ∧ Q (.int (if j < i then j else i)) H) := by
  intro pins s σ H xs us Q I r h
  obtain ⟨i, j, rfl, q⟩ := h
  obtain ⟨u, w', rfl, ⟨t, rfl⟩, ⟨t', rfl⟩⟩ := vals2 r
  refine min_two_ints (I.ok.hd hc) fun h' tk k => ⟨_, H, I.kept k, ?_, q⟩
  by_cases hj : j < i
  · rw [if_pos hj, if_pos hj]; exact ⟨_, rfl⟩
  · rw [if_neg hj, if_neg hj]; exact ⟨_, rfl⟩
end
end L2
namespace L2
open PySem PySem.Spec PyProof.Rows
structure ObjM (h : Heap) (x dx C : Addr) (mA : Str → Option Value) : Prop where
  obj : h.get? x = some (PySem.W.instObj C dx)
  ns : h.Ns1 dx mA
  ne : dx ≠ x
theorem lookIn_ns {h : Heap} {dx : Addr} {mA : Str → Option Value} (n : h.Ns1 dx mA) : ∃ od, h.get? dx = some od ∧ ∀ name, PySem.W.lookIn name od = some (mA name) := by
  obtain ⟨o, es, ep, ho, hd, hk, _, hm⟩ := n
  refine ⟨o, ho, fun name => ?_⟩
  have e := hm name
  unfold nsFind findBy at e
  rw [← Array.find?_toList] at e
  unfold PySem.W.lookIn
  rw [hd]
  dsimp only
  split
  · rename_i y q
    rw [q] at e
    exact congrArg some e
  · rename_i q
    rw [q] at e
    have a : es.toList.any (·.refKey) = false := by
      rw [List.any_eq_false]
      intro y hy
      obtain ⟨z, t, hkey⟩ := hk y (Array.mem_toList_iff.mp hy)
      simp [DictEntry.refKey, hkey]
    have a' : ¬ es.toList.any (·.refKey) = true := by rw [a]; exact Bool.false_ne_true
    rw [if_neg a']
    exact congrArg some e
theorem ObjM.look {h : Heap} {x dx C : Addr} {mA : Str → Option Value} (I : ObjM h x dx C mA) : ∃ od, PySem.W.InstAt h x (PySem.W.instObj C dx) C (some od) ∧ ∀ name, PySem.W.lookIn name od = some (mA name) :=
  let ⟨od, ho, hl⟩ := lookIn_ns I.ns
  ⟨od, ⟨I.obj, rfl, rfl, ho⟩, hl⟩
section
variable {prog : Program} {w : World} {A : Around} {E : Value → Shared → Prop} {s : Shared} {K : PySem.W.Frag} {x dx C f : Addr} {mA : Str → Option Value} {name : Str} {v : Value}
end
section
variable {P : Program} {w : World} {H H' : Hp} {h h' : Heap} {a C dx : Addr} {fs fs' : List (Str × V)}
theorem ins_get (hok : HOk P w H h) (e : H a = some (.ins C dx fs)) : ∃ mA, ObjM h a dx C mA ∧ (∀ f, RelO (fs.lookup f) (mA f)) ∧ PySem.Within mA (fs.map (·.1)) ∧ fs.length ≤ 1000 ∧ H dx = some (.own a) := by
  obtain ⟨d, z, ne, ob, mA, n, r, q⟩ := (show ObjOk P w H h a (.ins C dx fs) from hok a _ e)
  exact ⟨mA, ⟨ob, n, ne⟩, r, q, z, d⟩
end
structure Cls (K : PySem.W.Frag) (C : Addr) : Prop where
  pg : PySem.W.plainGet K C Str.empty = true
  hd : PySem.W.hasDictIn K C = true
  po : PySem.W.plainOver K C = true
  sa : PySem.W.findIn K (.ref C) "__setattr__" = some (some (.builtin "object.__setattr__"))
theorem Cls.get {K : PySem.W.Frag} {C : Addr} (c : Cls K C) (f : Str) : PySem.W.plainGet K C f = true := c.pg
section
variable {X : Cx} {pins : List (Addr × Obj)} {σ : St} {H : Hp} {s : Shared} {a C dx : Addr} {fs : List (Str × V)} {f : Str} {v : V} {A : Around} {E : Value → Shared → Prop}
end
section
variable {X : Cx} {o e value : Expr} {f : Str} {pos pos' tpos : Pos} {ta tv : TE}
end
section
variable {X : Cx} {pins : List (Addr × Obj)} {σ : St} {H : Hp} {s : Shared} {A : Around} {E : Value → Shared → Prop} {Q : Value → Shared → Prop} {c : Value} {b : Bool}
inductive TyOf (K : PySem.W.Frag) (H : Hp) : V → Value → Prop where
  | non : TyOf K H .non (.type "NoneType")
  | bl (x : Bool) : TyOf K H (.bl x) (.type "bool")
  | int (i : Int) : TyOf K H (.int i) (.type "int")
  | str (x : Str) : TyOf K H (.str x) (.type "str")
  | flt (x : UInt64) : TyOf K H (.flt x) (.type "float")
  | lst {a : Addr} {xs : List V} (e : H a = some (.lst xs)) : TyOf K H (.ref a) (.type "list")
  | frz {a : Addr} {o : Obj} {xs : List V} (e : H a = some (.frz o (.lst xs))) : TyOf K H (.ref a) (.type "list")
  | tup {a : Addr} {xs : List V} (e : H a = some (.tup xs)) : TyOf K H (.ref a) (.type "tuple")
  | dK {a : Addr} {kvs : List (Key × V)} (e : H a = some (.dK kvs)) : TyOf K H (.ref a) (.type "dict")
  | dT {a : Addr} {kvs : List (List Key × V)} (e : H a = some (.dT kvs)) : TyOf K H (.ref a) (.type "dict")
  | ins {a C dx : Addr} {fs : List (Str × V)} (e : H a = some (.ins C dx fs)) (cl : Cls K C) (ha : PySem.W.findIn K (.ref C) "__class__" = some (some (.builtin "object.__class__")))
      (hn : PySem.W.specialIn K (.builtin "object.__class__") "__get__" = some (some (.builtin "getset_descriptor.__get__"))) (htk : PySem.W.takesIn K (.builtin "object.__class__") = some true)
      (hm : PySem.W.mroIn K C (.type "object") = some true) : TyOf K H (.ref a) (.ref C)
theorem isinst_ok {x : V} {u t : Value} (I : Inv X pins σ H s) (rx : RelV x u) (ty : TyOf X.K H x t) (e : PySem.W.kitOne X.K t c = some b) (h : ∀ tk, Q (.bool b) { s with toks := tk }) :
    wpAny (model X.prog X.w) A (call (.builtin "isinstance") [u, c]) Q E s := by
  cases ty with
  | non => cases (show u = Value.none from rx); exact PySem.W.kia_one PySem.W.kitx_none I.kIn True.intro e (fun z => nomatch z) h
  | bl y => cases (show u = Value.bool y from rx); exact PySem.W.kia_one PySem.W.kitx_bool I.kIn True.intro e (fun z => nomatch z) h
  | int i => obtain ⟨t, q⟩ := (show ∃ t, u = Value.int i t from rx); cases q; exact PySem.W.kia_one PySem.W.kitx_int I.kIn True.intro e (fun z => nomatch z) h
  | str y => obtain ⟨t, q⟩ := (show ∃ t, u = Value.str y t from rx); cases q; exact PySem.W.kia_one PySem.W.kitx_str I.kIn True.intro e (fun z => nomatch z) h
  | flt y => obtain ⟨t, q⟩ := (show ∃ t, u = Value.float y t from rx); cases q; exact PySem.W.kia_one PySem.W.kitx_float I.kIn True.intro e (fun z => nomatch z) h
  | @lst a xs ea =>
    cases (show u = Value.ref a from rx)
    obtain ⟨_, _, n, _, h1⟩ := (show ObjOk X.prog X.w H s.heap a (.lst xs) from I.hok a _ ea)
    exact PySem.W.kia_one PySem.W.kitx_list I.kIn ⟨_, h1, rfl⟩ e (fun z => nomatch z) h
  | @frz a ob xs ea =>
    cases (show u = Value.ref a from rx)
    obtain ⟨_, _, _, n, _, h1⟩ := (show ObjOk X.prog X.w H s.heap a (.frz ob (.lst xs)) from I.hok a _ ea)
    exact PySem.W.kia_one PySem.W.kitx_list I.kIn ⟨_, h1, rfl⟩ e (fun z => nomatch z) h
  | @tup a xs ea =>
    cases (show u = Value.ref a from rx)
    obtain ⟨_, _, _, p⟩ := (show ObjOk X.prog X.w H s.heap a (.tup xs) from I.hok a _ ea)
    obtain ⟨o, h1, h2, _⟩ := p
    exact PySem.W.kia_one PySem.W.kitx_tuple I.kIn ⟨o, h1, h2⟩ e (fun z => nomatch z) h
  | @dK a kvs ea =>
    cases (show u = Value.ref a from rx)
    obtain ⟨_, _, vs, _, p⟩ := (show ObjOk X.prog X.w H s.heap a (.dK kvs) from I.hok a _ ea)
    obtain ⟨o, es, ep, h1, h2, _⟩ := p
    exact PySem.W.kia_one PySem.W.kitx_dict I.kIn ⟨o, h1, h2.1⟩ e (fun z => nomatch z) h
  | @dT a kvs ea =>
    cases (show u = Value.ref a from rx)
    obtain ⟨_, _, xs, _, o, es, ep, h1, h2, _⟩ := (show ObjOk X.prog X.w H s.heap a (.dT kvs) from I.hok a _ ea)
    exact PySem.W.kia_one PySem.W.kitx_dict I.kIn ⟨o, h1, h2.1⟩ e (fun z => nomatch z) h
  | @ins a C dx fs ea cl ha hn htk hm =>
    cases (show u = Value.ref a from rx)
    obtain ⟨mA, O, _⟩ := ins_get I.hok ea
    obtain ⟨od, J, _⟩ := O.look
    exact PySem.W.kia_one (PySem.W.kitx_own (cl.get _) cl.hd ha hn htk hm) I.kIn J e (fun z => nomatch z) h
end
end L2
namespace L2
open PySem PySem.Spec PyProof.Rows
structure Room (k : Nat) (A : Around) : Prop where
  hd : A.handled = none
  dp : A.depth + 3 * k + 5 < recursionLimit
  un : A.units + 16 * k + 200 < cLine
theorem Room.mono {j k : Nat} {A : Around} (r : Room k A) (h : j ≤ k) : Room j A := ⟨r.hd, by have := r.dp; omega, by have := r.un; omega⟩
theorem Room.deeper {k : Nat} {A : Around} (r : Room (k + 1) A) (env : Env) : Room k (A.deeper env) :=
  ⟨r.hd, by have := r.dp; show A.depth + 1 + 3 * k + 5 < _; omega, by have := r.un; show A.units + 3 + 16 * k + 200 < _; omega⟩
theorem Room.in1 {k : Nat} {A : Around} (r : Room (k + 1) A) : Room k A.in1 :=
  ⟨r.hd, by have := r.dp; show A.depth + 3 * k + 5 < _; omega, by have := r.un; show A.units + 1 + 16 * k + 200 < _; omega⟩
theorem Room.depth {k : Nat} {A : Around} (r : Room k A) : A.depth < recursionLimit := by have := r.dp; omega
theorem Room.units {k : Nat} {A : Around} (r : Room k A) : A.units + 64 < cLine := by have := r.un; omega
def tNil : TA := fun _ H Q => Q [] H
def tCons (ta : TE) (tr : TA) : TA := fun σ H Q => ta σ H fun x H1 => tr σ H1 fun xs H2 => Q (x :: xs) H2
section
variable {X : Cx} {e : Expr} {es : List Expr} {te : TE} {t : TA} {pos : Pos}
theorem pa_nil : PA X [] tNil := fun _ _ _ _ H Q I h => Calls.spliced_nil ⟨[], H, I, .nil, h⟩
theorem pa_cons (ha : PE X e te) (hr : PA X es t) (hs : starEach (e :: es) X.env = (false, eval e X.env) :: starEach es X.env := by rfl) : PA X (e :: es) (tCons te t) := by
  intro pos pins s σ H Q I h
  rw [hs]
  show wpAny _ _ (spliced ((false, eval e X.env) :: backTo pos (starEach es X.env))) _ _ s
  refine Calls.spliced_cons (thn (ha pins s σ H _ I h) fun u s1 ⟨x, H1, I1, r1, q1⟩ => ?_)
  exact thn (hr pos pins s1 σ H1 _ I1 q1) fun us s2 ⟨xs, H2, I2, r2, q2⟩ => ⟨x :: xs, H2, I2, .cons r1 r2, q2⟩
def tTup (t : TA) : TE := fun σ H Q => t σ H fun xs H1 => xs.length ≤ sizeLine ∧ ∀ p, H1 p = none → Q (.ref p) (upd H1 p (.tup xs))
def tLst (t : TA) : TE := fun σ H Q => t σ H fun xs H1 => xs.length ≤ sizeLine ∧ ∀ p, H1 p = none → Q (.ref p) (upd H1 p (.lst xs))
theorem pe_tup {x1} (h : PA X es t) : PE X (.Tuple es x1 pos) (tTup t) := by
  intro pins s σ H Q I hq
  refine wpAny_Tuple_spliced (thn (h pos pins s σ H _ I hq) fun us s1 ⟨xs, H1, I1, r, z, q⟩ => ⟨by rw [← r.length]; exact z, ?_⟩)
  have hf : H1 s1.heap.objs.size = none := I1.hok.fresh (Nat.le_refl _)
  refine ⟨.ref s1.heap.objs.size, upd H1 s1.heap.objs.size (.tup xs), I1.laid (t' := s1.toks) (fun b u e => Heap.get?_push_of_some _ e) (Nat.le_refl _) ?_, rfl, q _ hf⟩
  exact ⟨z, us, r, ⟨_, Heap.get?_push_size _ rfl, rfl, _, rfl⟩⟩
theorem pe_lst (h : PA X es t) : PE X (.List es pos) (tLst t) := by
  intro pins s σ H Q I hq
  refine wpAny_List_spliced (thn (h pos pins s σ H _ I hq) fun us s1 ⟨xs, H1, I1, r, z, q⟩ => ⟨by rw [← r.length]; exact z, ?_⟩)
  have hf : H1 s1.heap.objs.size = none := I1.hok.fresh (Nat.le_refl _)
  refine ⟨.ref s1.heap.objs.size, upd H1 s1.heap.objs.size (.lst xs), I1.laid (t' := s1.toks) (fun b u e => Heap.get?_push_of_some _ e) (Nat.le_refl _) ?_, rfl, q _ hf⟩
  exact ⟨z, us, 0, r, Heap.get?_push_size _ rfl⟩
end
abbrev Sp := List V → Hp → VK → XK → Prop
abbrev CXT := List Env → Hp → Shared → XK → Value → Shared → Prop
structure Env0 (P : Program) (w : World) (K : PySem.W.Frag) (mg : Str → Option Value) (base : Heap) (A : Around) (outer : List Env) (s : Shared) (H : Hp) : Prop where
  frames : A.frames = some outer
  mod : Mod K mg base
  bs : ∀ b o, base.get? b = some o → s.heap.get? b = some o ∧ H b = none
  bsz : base.objs.size ≤ s.heap.objs.size
  funs : s.heap.FunFrames base outer
  frf : ∀ b ∈ frs outer, H b = none
  hok : HOk P w H s.heap
  bare : AllBare s.gens
def CE (outer : List Env) (P : Program) (w : World) (H : Hp) (s : Shared) (Q : VK) (u : Value) (s' : Shared) : Prop :=
  ∃ v H', s'.os = s.os ∧ AllBare s'.gens ∧ Un (frs outer) [] H H' s.heap s'.heap ∧ HOk P w H' s'.heap ∧ RelV v u ∧ Q v H'
def CR (CX : CXT) (outer : List Env) (P : Program) (w : World) (H : Hp) (s : Shared) (Q : VK) (E : XK) (r : Result) (s' : Shared) : Prop :=
  match r with
  | .ok (.ret u) => CE outer P w H s Q u s'
  | .ok _ => False
  | .error e => CX outer H s E e s'
structure FnOk (P : Program) (w : World) (K : PySem.W.Frag) (mg : Str → Option Value) (base : Heap) (CX : CXT) (k : Nat) (f : Addr) (fd : FuncData) (ps : List Str) (sp : Sp) : Prop where
  len : ∀ vs H Q E, sp vs H Q E → vs.length = ps.length
  run : ∀ (A : Around) (outer : List Env) (s : Shared) (H : Hp) (args : Args) (us : List Value) (vs : List V) (Q : VK) (E : XK), Room k A → Env0 P w K mg base A outer s H → BindsTo s fd args (ps.zip us) → Vals vs us → sp vs H Q E →
    codeAny (model P w) A (.call (.ref f) args) (CR CX outer P w H s Q E) s
theorem FnOk.mono {P : Program} {w : World} {K : PySem.W.Frag} {mg : Str → Option Value} {base : Heap} {CX : CXT} {j k : Nat} {f : Addr} {fd : FuncData} {ps : List Str} {sp : Sp} (F : FnOk P w K mg base CX j f fd ps sp) (h : j ≤ k) :
    FnOk P w K mg base CX k f fd ps sp := ⟨F.len, fun A outer s H args us vs Q E hr => F.run A outer s H args us vs Q E (hr.mono h)⟩
theorem FnOk.imp {P : Program} {w : World} {K : PySem.W.Frag} {mg : Str → Option Value} {base : Heap} {CX : CXT} {k : Nat} {f : Addr} {fd : FuncData} {ps : List Str} {sp sp' : Sp} (F : FnOk P w K mg base CX k f fd ps sp)
    (h : ∀ vs H Q E, sp' vs H Q E → sp vs H Q E) : FnOk P w K mg base CX k f fd ps sp' :=
  ⟨fun vs H Q E q => F.len vs H Q E (h _ _ _ _ q), fun A outer s H args us vs Q E hr he hb hv hs => F.run A outer s H args us vs Q E hr he hb hv (h _ _ _ _ hs)⟩
theorem Env0.in1 {P : Program} {w : World} {K : PySem.W.Frag} {mg : Str → Option Value} {base : Heap} {A : Around} {outer : List Env} {s : Shared} {H : Hp} (e : Env0 P w K mg base A outer s H) :
    Env0 P w K mg base A.in1 outer s H := ⟨e.frames, e.mod, e.bs, e.bsz, e.funs, e.frf, e.hok, e.bare⟩
section
variable {X : Cx} {pins : List (Addr × Obj)} {σ : St} {H : Hp} {s s' : Shared}
theorem Inv.env0 (I : Inv X pins σ H s) : Env0 X.prog X.w X.K X.mg X.base X.A X.stack s H :=
  ⟨I.ok.frames, I.ok.mod, I.bs, Nat.le_trans I.ok.bsz I.sz, I.stack, I.stkFree, I.hok, I.bare⟩
theorem Inv.after {Q : VK} {u : Value} (I : Inv X pins σ H s) (h : CE X.stack X.prog X.w H s Q u s') : EP X pins σ Q u s' := by
  obtain ⟨v, H', os, bare, un, hok, r, q⟩ := h
  obtain ⟨hh, g, d, t, os'⟩ := s'
  obtain rfl : os' = s.os := os
  exact ⟨v, H', I.call (h' := hh) (g' := g) (d' := d) (t' := t) (ch := []) un hok bare (fun b z => absurd z (by simp)), r, q⟩
end
def tCall (sp : Sp) (dvs : List V) (E : XK) (t : TA) : TE := fun σ H Q => t σ H fun vs H1 => sp (vs ++ dvs) H1 Q E
def Binds (K : PySem.W.Frag) (fd : FuncData) (ps : List Str) (ds : List Value) : Prop :=
  ∀ (s : Shared) (us : List Value), K.In s.heap → (us ++ ds).length = ps.length → BindsTo s fd ⟨us, []⟩ (ps.zip (us ++ ds))
theorem Binds.all {K : PySem.W.Frag} {fd : FuncData} {ps : List Str} (h : ∀ us : List Value, us.length = ps.length → bindArgs fd ⟨us, []⟩ = pure (ps.zip us)) : Binds K fd ps [] := fun s us _ hl => by
  rw [List.append_nil] at hl ⊢
  exact .of_eq (h us hl)
def Passes (CX : CXT) (X : Cx) (E : XK) : Prop := ∀ (pins : List (Addr × Obj)) (σ : St) (H : Hp) (s : Shared) (e : Value) (s' : Shared), Inv X pins σ H s → CX X.stack H s E e s' → X.xe e s'
section
variable {X : Cx} {CX : CXT} {k : Nat} {f C : Addr} {fd : FuncData} {ps : List Str} {sp : Sp} {dvs : List V} {ds : List Value} {E : XK} {x m : Str} {p pos apos : Pos} {e o : Expr} {es : List Expr} {ta : TE} {t : TA}
theorem run_fn {pins : List (Addr × Obj)} {σ : St} {H : Hp} {s : Shared} {Q : VK} {us : List Value} {vs : List V} (F : FnOk X.prog X.w X.K X.mg X.base CX k f fd ps sp) (hr : Room k X.A) (hb : Binds X.K fd ps ds) (hd : Vals dvs ds) (hx : Passes CX X E)
    (I : Inv X pins σ H s) (r : Vals vs us) (h : sp (vs ++ dvs) H Q E) : wpAny (model X.prog X.w) X.A (call (.ref f) us) (EP X pins σ Q) X.xe s := by
  have r2 : Vals (vs ++ dvs) (us ++ ds) := r.append hd
  have hl : (us ++ ds).length = ps.length := by rw [← r2.length]; exact F.len _ _ _ _ h
  refine wpAny_call (codeAny_mono (F.run X.A X.stack s H ⟨us, []⟩ (us ++ ds) (vs ++ dvs) Q E hr I.env0 (hb s us I.kIn hl) r2 h) fun r s' hq => ?_)
  cases r with
  | error e => exact hx pins σ H s e s' I hq
  | ok fl =>
    cases fl with
    | ret u => exact I.after hq
    | next => exact False.elim hq
    | brk => exact False.elim hq
    | cont => exact False.elim hq
theorem pe_call (F : FnOk X.prog X.w X.K X.mg X.base CX k f fd ps sp) (hr : Room k X.A) (hg : Gl X x) (hm : X.mg x = some (.ref f)) (hk : PySem.W.keepIn X.K (.ref f) = true) (hb : Binds X.K fd ps ds) (hd : Vals dvs ds) (hx : Passes CX X E)
    (ha : PA X (e :: es) t) (hdb : (x == ("__debug__" : Str)) = false := by decide) (he : starEach (e :: es) X.env = (false, eval e X.env) :: starEach es X.env := by rfl) (hpl : (backTo pos (starEach es X.env)).any (·.1) = false := by rfl) :
    PE X (.Call (.Name x p) (e :: es) [] pos) (tCall sp dvs E t) := by
  intro pins s σ H Q I h
  refine wpAny_Call_Name_kw (ld_glob I hg hm ?_ hdb)
  refine PySem.W.callWith_K (h₀ := X.base) I.ok.mod.kin hk (thn (ha pos pins s σ H _ I h) fun us s1 ⟨vs, H1, I1, r, q⟩ => ⟨I1.kIn, ?_⟩) he hpl
  exact run_fn F hr hb hd hx I1 r q
end
section
variable {X : Cx} {CX : CXT} {k : Nat} {f C : Addr} {fd : FuncData} {ps ks : List Str} {sp : Sp} {E : XK} {x m : Str} {p pos apos kpos : Pos} {e o : Expr} {es : List Expr} {kws : List Keyword} {te ta : TE} {t tk : TA} {nm : Option Str}
variable {g : List Value → List Value → List Value} {gV : List V → List V → List V}
end
structure FnScope (N P : List Str) (sc : Scope) : Prop where
  kind : sc.kind = .function
  co : sc.isCoroutine = false
  gen : sc.isGenerator = false
  nd : N.Nodup
  pre : N.take P.length = P
  par : ∀ x ∈ P, sc.names.lookup x = some .local ∨ sc.names.lookup x = some .cell
  nofree : ∀ y ∈ sc.names, y.2 ≠ .free
theorem bindL_out {kindOf : Str → Option NameKind} {x : Str} : ∀ {binds : List (Str × Value)} {m : Str → Option Value}, (∀ v, (x, v) ∉ binds) → bindL kindOf binds m x = m x
  | [], _, _ => rfl
  | (n, v) :: r, m, h => by
    unfold bindL
    rw [bindL_out fun w hw => h w (List.mem_cons_of_mem _ hw)]
    split
    · have : x ≠ n := by rintro rfl; exact h v List.mem_cons_self
      simp [this]
    · rfl
theorem bindC_out {kindOf : Str → Option NameKind} {x : Str} : ∀ {binds : List (Str × Value)} {m : Str → Option Value}, (∀ v, (x, v) ∉ binds) → bindC kindOf binds m x = m x
  | [], _, _ => rfl
  | (n, v) :: r, m, h => by
    unfold bindC
    rw [bindC_out fun w hw => h w (List.mem_cons_of_mem _ hw)]
    split
    · rfl
    · have : x ≠ n := by rintro rfl; exact h v List.mem_cons_self
      simp [this]
theorem bindL_get {kindOf : Str → Option NameKind} {x : Str} {v : Value} : ∀ {P : List Str} {vs : List Value} {i : Nat} {m : Str → Option Value}, P.Nodup → P[i]? = some x → vs[i]? = some v → kindOf x = some .local →
    bindL kindOf (P.zip vs) m x = some v
  | [], _, _, _, _, h, _, _ => by simp at h
  | _ :: _, [], _, _, _, _, h, _ => by simp at h
  | p :: P, w :: vs, 0, m, nd, h1, h2, hk => by
    simp at h1 h2; subst h1; subst h2
    show bindL kindOf ((p, w) :: P.zip vs) m p = _
    unfold bindL
    rw [bindL_out fun v hv => (List.nodup_cons.mp nd).1 (List.of_mem_zip hv).1, if_pos hk]
    simp
  | p :: P, w :: vs, i + 1, m, nd, h1, h2, hk => by
    show bindL kindOf ((p, w) :: P.zip vs) m x = _
    unfold bindL
    exact bindL_get (i := i) (List.nodup_cons.mp nd).2 (by simpa using h1) (by simpa using h2) hk
theorem bindC_get {kindOf : Str → Option NameKind} {x : Str} {v : Value} : ∀ {P : List Str} {vs : List Value} {i : Nat} {m : Str → Option Value}, P.Nodup → P[i]? = some x → vs[i]? = some v → kindOf x ≠ some .local →
    bindC kindOf (P.zip vs) m x = some v
  | [], _, _, _, _, h, _, _ => by simp at h
  | _ :: _, [], _, _, _, _, h, _ => by simp at h
  | p :: P, w :: vs, 0, m, nd, h1, h2, hk => by
    simp at h1 h2; subst h1; subst h2
    show bindC kindOf ((p, w) :: P.zip vs) m p = _
    unfold bindC
    rw [bindC_out fun v hv => (List.nodup_cons.mp nd).1 (List.of_mem_zip hv).1, if_neg hk]
    simp
  | p :: P, w :: vs, i + 1, m, nd, h1, h2, hk => by
    show bindC kindOf ((p, w) :: P.zip vs) m x = _
    unfold bindC
    exact bindC_get (i := i) (List.nodup_cons.mp nd).2 (by simpa using h1) (by simpa using h2) hk
def start (N : List Str) (vs : List V) : St := vs.map some ++ List.replicate (N.length - vs.length) none
def cxOf (CX : CXT) (P : Program) (w : World) (K : PySem.W.Frag) (mg : Str → Option Value) (base : Heap) (N : List Str) (qual : Str) (scope : Scope) (f : Addr) (cd : Value) (A : Around) (outer : List Env) (s : Shared) (H : Hp) (E : XK) : Cx where
  prog := P
  w := w
  K := K
  mg := mg
  base := base
  A := A.deeper (envOfC qual scope s.heap.objs.size f cd)
  N := N
  s₀ := s
  H₀ := H
  env := envOfC qual scope s.heap.objs.size f cd
  outer := outer
  stack := envOfC qual scope s.heap.objs.size f cd :: outer
  ex := []
  calm := true
  fn := fun _ => true
  pn := []
  xe := fun e s' => wpAny (model P w) (A.deeper (envOfC qual scope s.heap.objs.size f cd)) (leaving (envOfC qual scope s.heap.objs.size f cd) e) (fun _ s'' => CX outer H s E e s'') (fun e' s'' => CX outer H s E e' s'') s'
theorem cell_has {sc : Scope} {n : Nat} {x : Str} (h : sc.names.lookup x = some .cell) : ∃ c, (cellsFrom n sc.names []).lookup x = some c := by
  have q := PySem.W.cellsFrom_some sc.names n [] (.inl h)
  exact Option.isSome_iff_exists.mp q
theorem inv_start {CX : CXT} {P : Program} {w : World} {K : PySem.W.Frag} {mg : Str → Option Value} {base : Heap} {N ps : List Str} {qual : Str} {scope : Scope} {f : Addr} {cd : Value} {A : Around} {outer : List Env} {s s1 : Shared} {H : Hp} {E : XK} {us : List Value} {vs : List V}
    (S : FnScope N ps scope) (hd : A.handled = none) (e0 : Env0 P w K mg base A outer s H) (hl : vs.length = ps.length) (r : Vals vs us)
    (x : InCallC s s.heap.objs.size (bindL (envOfC qual scope s.heap.objs.size f cd).kindOf (ps.zip us) fun _ => none) (cellsFrom (s.heap.objs.size + 1) scope.names []) (bindC (envOfC qual scope s.heap.objs.size f cd).kindOf (ps.zip us) fun _ => none) s1) :
    Inv (cxOf CX P w K mg base N qual scope f cd A outer s H E) [] (start N vs) H s1 := by
  have hpl : ps.length ≤ N.length := by have := congrArg List.length S.pre; rw [List.length_take] at this; omega
  obtain ⟨h1, tk, rfl, hk⟩ := x.done
  have noA : ∀ b : Addr, b ∉ (cxOf CX P w K mg base N qual scope f cd A outer s H E).ex := fun b z => absurd (show b ∈ ([] : List Addr) from z) (by simp)
  refine ⟨⟨e0.mod, S.kind, rfl, rfl, Nat.le_refl _, fun y z c h1 h2 => ?_, fun y hy => ?_, fun y c _ h => ?_, fun _ => hd, Around.frames_deeper e0.frames, .inr ⟨rfl, rfl⟩, fun b z => absurd z (noA b), e0.bs, e0.bsz, fun b _ _ => noA b, fun b z => absurd z (noA b), e0.funs, e0.frf⟩,
    rfl, e0.bare, Un.kept hk, ⟨_, x.toInCall.ns, fun i y v h1 h2 h3 => ?_⟩, fun y c h => ⟨_, x.cell y c h⟩, e0.hok.fresh (Nat.le_refl _), fun y c h => ?_, fun p hp => absurd (show p ∈ ([] : List (Addr × Obj)) from hp) (by simp), e0.hok.kept hk, ?_⟩
  · exact name_of_addr x.apart (PySem.mem_of_lookup h1) (PySem.mem_of_lookup h2)
  · have hy : scope.names.lookup y = some .cell ∨ scope.names.lookup y = some .free := hy
    rcases hy with hy | hy
    · exact cell_has hy
    · exact absurd rfl (S.nofree _ (PySem.mem_of_lookup hy))
  · exact Nat.le_of_lt (x.above y c (PySem.mem_of_lookup h))
  · have hi : i < vs.length := by
      unfold start at h2
      by_cases hi : i < vs.length
      · exact hi
      · rw [List.getElem?_append_right (by simpa using hi)] at h2
        rw [List.getElem?_replicate] at h2
        split at h2 <;> cases h2
    have ha : vs[i]? = some v := by
      unfold start at h2
      rw [List.getElem?_append_left (by simpa using hi), List.getElem?_map] at h2
      cases e : vs[i]? with
      | none => rw [e] at h2; cases h2
      | some a => rw [e] at h2; cases h2; rfl
    obtain ⟨u, hu, rv⟩ := r.get ha
    have hp : ps[i]? = some y := by
      rw [← S.pre, List.getElem?_take_of_lt (by omega)]; exact h1
    have ndP : ps.Nodup := by rw [← S.pre]; exact S.nd.sublist (List.take_sublist _ _)
    refine ⟨u, rv, ?_⟩
    rcases S.par y (List.mem_of_getElem? hp) with k | k
    · exact .inl ⟨k, bindL_get ndP hp hu k⟩
    · obtain ⟨c, e⟩ := cell_has (n := s.heap.objs.size + 1) k
      refine .inr ⟨.inl k, c, e, ?_⟩
      have q := x.cell y c e
      rw [bindC_get ndP hp hu (by show scope.names.lookup y ≠ _; rw [k]; decide)] at q
      exact q
  · exact e0.hok.fresh (Nat.le_of_lt (x.above y c (PySem.mem_of_lookup h)))
  · unfold start
    show _ = N.length
    rw [List.length_append, List.length_map, List.length_replicate]
    omega
theorem fn_of {CX : CXT} {P : Program} {w : World} {K : PySem.W.Frag} {mg : Str → Option Value} {base : Heap} {k : Nat} {f : Addr} {name qual : Str} {params : Arguments} {body : List Stmt} {scope : Scope} {dV kV doc pm cdv ct oc : Value} {an od : Option Addr}
    {osl : Array (Option Value)} {N ps : List Str} {sp : Sp} (lk : K.lookup f = some ⟨oc, od, .func (PySem.W.fnOf name qual params body scope dV kV doc pm an cdv ct), osl⟩) (hcd : PySem.W.codeIn K cdv qual = true) (S : FnScope N ps scope)
    (len : ∀ vs H Q E, sp vs H Q E → vs.length = ps.length)
    (hbody : ∀ (A : Around) (outer : List Env) (s : Shared) (H : Hp) (vs : List V) (Q : VK) (E : XK), Room k (A.deeper (envOfC qual scope s.heap.objs.size f cdv)) → sp vs H Q E →
      ∃ t, PSs (cxOf CX P w K mg base N qual scope f cdv A outer s H E) body t ∧ t { nx := fun _ H' => Q .non H', rt := Q } (start N vs) H) :
    FnOk P w K mg base CX (k + 1) f (PySem.W.fnOf name qual params body scope dV kV doc pm an cdv ct) ps sp := by
  refine ⟨len, fun A outer s H args us vs Q E hr e0 hb r hsp => ?_⟩
  have hl := len _ _ _ _ hsp
  have KX : K.In s.heap := e0.mod.kin.keeps fun b o e => (e0.bs b o e).1
  have lim : s.heap.NoLimit := e0.mod.nolimit.keeps fun b o e => (e0.bs b o e).1
  have hkind : ∀ y ∈ ps.zip us, scope.names.lookup y.1 = some .local ∨ (scope.names.lookup y.1 = some .cell ∧ ((cellsFrom (s.heap.objs.size + 1) scope.names []).lookup y.1).isSome = true) := fun ⟨n, v⟩ hy => by
    rcases S.par n (List.of_mem_zip hy).1 with q | q
    · exact .inl q
    · exact .inr ⟨q, PySem.W.cellsFrom_some _ _ _ (.inl q)⟩
  refine codeAny_call_function hr.depth (KX _ _ lk) rfl S.co S.gen rfl (PySem.W.codeRec_of KX hcd) (hb _ _ _ _ ?_)
  refine wpAny_newFunctionEnv_cells S.kind hkind fun env he s1 x => ?_
  subst he
  refine ⟨lim.keeps x.toInCall.keep, codeAny_func ?_⟩
  obtain ⟨t, ht, hq⟩ := hbody A outer s H vs Q E (hr.deeper _) hsp
  have I : Inv (cxOf CX P w K mg base N qual scope f cdv A outer s H E) [] (start N vs) H s1 := inv_start S hr.hd e0 hl r x
  refine wpAny_mono (ht [] s1 (start N vs) H _ I hq) (fun fl s' hs => ?_) fun e s' hs => hs
  have fin : ∀ {σ' : St} {H' : Hp} {v : V} {u : Value}, Inv (cxOf CX P w K mg base N qual scope f cdv A outer s H E) [] σ' H' s' → RelV v u → Q v H' → CE outer P w H s Q u s' :=
    fun {σ' H' v u} J rv q => ⟨v, H', J.os, J.bare, J.base, J.hok, rv, q⟩
  cases fl with
  | ret u =>
    obtain ⟨v, σ', H', J, rv, q⟩ := hs
    exact fin J rv q
  | next =>
    obtain ⟨σ', H', J, q⟩ := hs
    exact fin (v := V.non) (u := Value.none) J rfl q
  | brk =>
    obtain ⟨_, _, _, q⟩ := hs
    exact False.elim q
  | cont =>
    obtain ⟨_, _, _, q⟩ := hs
    exact False.elim q
end L2
namespace L2
open PySem PySem.Spec PyProof.Rows
section
variable {X : Cx} {x : Str} {p pos : Pos} {e : Expr} {es : List Expr} {t : TA} {id T : String} {r : List V → Hp → VK → Prop}
def tCB (r : List V → Hp → VK → Prop) (t : TA) : TE := fun σ H Q => t σ H fun vs H1 => r vs H1 Q
theorem pe_callB (hc : CallR X (.builtin id) r) (hg : Gl X x) (hm : X.mg x = none) (hv : bootBuiltins x = some (.builtin id)) (ha : PA X (e :: es) t) (hn : x ≠ "__name__" := by decide) (hdb : (x == ("__debug__" : Str)) = false := by decide)
    (he : starEach (e :: es) X.env = (false, eval e X.env) :: starEach es X.env := by rfl) (hpl : (backTo pos (starEach es X.env)).any (·.1) = false := by rfl) : PE X (.Call (.Name x p) (e :: es) [] pos) (tCB r t) := by
  intro pins s σ H Q I h
  refine wpAny_Call_Name_kw (ld_blt I hg hm hv ?_ hn hdb)
  exact PyProof.Rows.callWith_builtin1 (thn (ha pos pins s σ H _ I h) fun us s1 ⟨vs, H1, I1, r1, q1⟩ => hc pins s1 σ H1 vs us Q I1 r1 q1) he hpl
theorem pe_callTy (hc : CallR X (.type T) r) (hg : Gl X x) (hm : X.mg x = none) (hv : bootBuiltins x = some (.type T)) (ha : PA X (e :: es) t) (hn : x ≠ "__name__" := by decide) (hdb : (x == ("__debug__" : Str)) = false := by decide)
    (he : starEach (e :: es) X.env = (false, eval e X.env) :: starEach es X.env := by rfl) (hpl : (backTo pos (starEach es X.env)).any (·.1) = false := by rfl) : PE X (.Call (.Name x p) (e :: es) [] pos) (tCB r t) := by
  intro pins s σ H Q I h
  refine wpAny_Call_Name_kw (ld_blt I hg hm hv ?_ hn hdb)
  exact PyProof.Rows.callWith_type1 (thn (ha pos pins s σ H _ I h) fun us s1 ⟨vs, H1, I1, r1, q1⟩ => hc pins s1 σ H1 vs us Q I1 r1 q1) he hpl
end
end L2
namespace HT
open PySem PyProof.Rows
section
open PySem.SeqAt
open PySem.AutoSeq1 (wpAny_loadPart')
open PySem.MeetsSeq PySem.MeetsSeq2 PySem.MeetsSeq3
end
section
variable {prog : Program} {w : World} {A : Around} {E : Value → Shared → Prop} {s : Shared}
def sIx (n d : Nat) : Option Int → Nat
  | none => d
  | some v => if v < 0 then (v + (n : Int)).toNat else min v.toNat n
end
end HT
namespace L2
open PySem PySem.Spec PyProof.Rows
abbrev TO := St → Hp → (Option Int → Hp → Prop) → Prop
def tNoPart : TO := fun _ H Q => Q none H
def tPart (t : TE) : TO := fun σ H Q => t σ H fun x H1 => ∃ i, x = .int i ∧ Q (some i) H1
section
variable {X : Cx} {e : Expr} {te : TE} {lo hi : Option Expr} {tl th : TO} {pos p2 : Pos}
def SlR (X : Cx) (r : V → Option Int → Option Int → Hp → VK → Prop) : Prop :=
  ∀ (pins : List (Addr × Obj)) (s : Shared) (σ : St) (H : Hp) (x : V) (v vl vu : Value) (lo hi : Option Int) (sl : Addr) (Q : VK), Inv X pins σ H s → RelV x v → s.heap.IsSliceOf sl vl vu .none → IsPart vl lo → IsPart vu hi → r x lo hi H Q →
    ∃ T id, typeLookup (.type T) "__getitem__" = pure (some (.builtin id)) ∧ s.TypeIs v T ∧ wpAny (model X.prog X.w) X.A (getItem v (.ref sl)) (EP X pins σ Q) X.xe s
theorem SlR.or {r r' : V → Option Int → Option Int → Hp → VK → Prop} (h : SlR X r) (h' : SlR X r') : SlR X (fun x lo hi H Q => r x lo hi H Q ∨ r' x lo hi H Q) := by
  intro pins s σ H x v vl vu lo hi sl Q I rx hs pl pu q
  rcases q with q | q
  · exact h pins s σ H x v vl vu lo hi sl Q I rx hs pl pu q
  · exact h' pins s σ H x v vl vu lo hi sl Q I rx hs pl pu q
def tSl (r : V → Option Int → Option Int → Hp → VK → Prop) (te : TE) (tl th : TO) : TE := fun σ H Q => te σ H fun x H1 => tl σ H1 fun l H2 => th σ H2 fun u H3 => r x l u H3 Q
def cutV (xs : List V) (lo hi : Option Int) : List V := (xs.drop (HT.sIx xs.length 0 lo)).take (HT.sIx xs.length xs.length hi - HT.sIx xs.length 0 lo)
end
end L2
namespace L2
open PySem PySem.Spec PyProof.Rows
def ixN (n : Nat) (i : Int) : Option Nat := if 0 ≤ i then (if i < n then some i.toNat else none) else if -(n : Int) ≤ i then some (i + n).toNat else none
def atI {α : Type} (xs : List α) (i : Int) : Option α := (ixN xs.length i).bind fun j => xs[j]?
theorem ixN_seq {n : Nat} {i : Int} {j : Nat} (h : ixN n i = some j) : seqIndex? i n = some j ∧ j < n ∧ -(n : Int) ≤ i ∧ i < n := by
  unfold ixN at h
  by_cases h0 : 0 ≤ i
  · rw [if_pos h0] at h
    by_cases h1 : i < n
    · rw [if_pos h1] at h
      have e : i.toNat = j := Option.some.inj h
      exact ⟨by rw [seqIndex_of h0 h1, e], by omega, by omega, h1⟩
    · rw [if_neg h1] at h; cases h
  · rw [if_neg h0] at h
    by_cases h1 : -(n : Int) ≤ i
    · rw [if_pos h1] at h
      have e : (i + n).toNat = j := Option.some.inj h
      exact ⟨by rw [seqIndex_neg (by omega) h1, e], by omega, h1, by omega⟩
    · rw [if_neg h1] at h; cases h
theorem atI_get {α : Type} {xs : List α} {i : Int} {v : α} (h : atI xs i = some v) : ∃ j, seqIndex? i xs.length = some j ∧ xs[j]? = some v ∧ j < xs.length ∧ -(xs.length : Int) ≤ i ∧ i < xs.length := by
  unfold atI at h
  cases e : ixN xs.length i with
  | none => rw [e] at h; cases h
  | some j =>
    rw [e] at h
    obtain ⟨h1, h2, h3, h4⟩ := ixN_seq e
    exact ⟨j, h1, h, h2, h3, h4⟩
theorem atI_nat {α : Type} {xs : List α} {j : Nat} {v : α} (h : xs[j]? = some v) : atI xs (j : Int) = some v := by
  have hj : j < xs.length := (List.getElem?_eq_some_iff.mp h).1
  have e : ixN xs.length (j : Int) = some j := by
    unfold ixN
    rw [if_pos (by omega), if_pos (by omega)]; simp
  unfold atI; rw [e]; exact h
def PlainIx (b : Expr) : Prop := ∀ o i, subscripted b false o i = operate [o, i] (getItem o i)
def IxR (X : Cx) (r : R2) : Prop :=
  ∀ (value slice : Expr) (pins : List (Addr × Obj)) (s : Shared) (σ : St) (H : Hp) (x y : V) (v u : Value) (Q : VK), Inv X pins σ H s → RelV x v → RelV y u → r x y H Q →
    subscripted slice false v u = operate [v, u] (getItem v u) → wpAny (model X.prog X.w) X.A (subscriptTail value slice v u) (EP X pins σ Q) X.xe s
def MtR (X : Cx) (id : String) (r : V → List V → Hp → VK → Prop) : Prop :=
  ∀ (pins : List (Addr × Obj)) (s : Shared) (σ : St) (H : Hp) (x : V) (xs : List V) (v : Value) (us : List Value) (Q : VK), Inv X pins σ H s → RelV x v → Vals xs us → r x xs H Q →
    wpAny (model X.prog X.w) X.A (call (.builtin id) (v :: us)) (EP X pins σ Q) X.xe s
section
variable {X : Cx} {a b : Expr} {ta tb : TE} {pos : Pos}
theorem IxR.or {r r' : R2} (h : IxR X r) (h' : IxR X r') : IxR X (fun x y H Q => r x y H Q ∨ r' x y H Q) := by
  intro value slice pins s σ H x y v u Q I rx ry q hs
  rcases q with q | q
  · exact h value slice pins s σ H x y v u Q I rx ry q hs
  · exact h' value slice pins s σ H x y v u Q I rx ry q hs
theorem MtR.or {id : String} {r r' : V → List V → Hp → VK → Prop} (h : MtR X id r) (h' : MtR X id r') : MtR X id (fun x xs H Q => r x xs H Q ∨ r' x xs H Q) := by
  intro pins s σ H x xs v us Q I rx rs q
  rcases q with q | q
  · exact h pins s σ H x xs v us Q I rx rs q
  · exact h' pins s σ H x xs v us Q I rx rs q
theorem pe_ix {r : R2} (hr : IxR X r) (ha : PE X a ta) (hb : PE X b tb) (hs : PlainIx b) : PE X (.Subscript a b pos) (tOp r ta tb) := by
  intro pins s σ H Q I h
  exact Subscript_ (binT ha hb I h fun v u s2 x y H2 I2 rx ry q => hr a b pins s2 σ H2 x y v u Q I2 rx ry q (hs _ _))
def rIxL (K : PySem.W.Frag) : R2 := fun x y H Q => ∃ p xs i v, x = .ref p ∧ y = .int i ∧ SqL K H p xs ∧ atI xs i = some v ∧ Q v H
def rIxT (K : PySem.W.Frag) : R2 := fun x y H Q => ∃ p xs i v, x = .ref p ∧ y = .int i ∧ SqT K H p xs ∧ atI xs i = some v ∧ Q v H
theorem ix_list : IxR X (rIxL X.K) := by
  intro value slice pins s σ H x y v u Q I rx ry h hs
  obtain ⟨p, xs, i, z, rfl, rfl, hq, he, q⟩ := h
  cases rx
  obtain ⟨t, rfl⟩ := ry
  obtain ⟨its, r, pl, hz⟩ := I.list hq
  obtain ⟨j, h1, h2, h3, h4, h5⟩ := atI_get he
  obtain ⟨w, ew, rw'⟩ := r.get h2
  have hl := r.length
  have hn := line63
  have fin : EP X pins σ Q w s := ⟨z, H, I, rw', q⟩
  by_cases h0 : 0 ≤ i
  · have hj : i.toNat = j := by
      rw [seqIndex_of h0 h5] at h1
      exact Option.some.inj h1
    exact item_listR pl.isList h0 (by omega) (by rw [hj]; simpa using ew) fin hs
  · have hj : (i + (its.toArray.size : Int)).toNat = j := by
      rw [seqIndex_neg (by omega) h4] at h1
      rw [List.size_toArray, ← hl]
      exact Option.some.inj h1
    exact subscriptTail_builtinR (x := w) pl.isList.typeIs slot_list_getitem.lookup
      (wpAny_getItem_list_neg (Q := fun r s' => r = w ∧ EP X pins σ Q r s') pl.isList (by omega) (by rw [List.size_toArray] <;> omega) (by omega) (by rw [hj]; simpa using ew) ⟨rfl, fin⟩) hs
theorem mapSeq_set (its : List Value) (n j : Nat) (u : Value) : Obj.mapSeq (·.setIfInBounds j u) { cls := .type "list", data := .seq its.toArray n } = { cls := .type "list", data := .seq (its.set j u).toArray n } := by
  simp [Obj.mapSeq]
theorem Inv.lst {pins : List (Addr × Obj)} {σ : St} {H : Hp} {s : Shared} {p : Addr} {xs : List V} (I : Inv X pins σ H s) (h : H p = some (.lst xs)) :
    ∃ (its : List Value) (n : Nat), Vals xs its ∧ s.heap.get? p = some { cls := .type "list", data := .seq its.toArray n } ∧ xs.length ≤ sizeLine := by
  obtain ⟨z, its, n, r, e⟩ := I.hok p _ h
  exact ⟨its, n, r, e, z⟩
theorem Inv.lstUpd {pins : List (Addr × Obj)} {σ : St} {H : Hp} {s : Shared} {p : Addr} {xs ys : List V} {its its' : List Value} {n n' : Nat} {f : Obj → Obj} (I : Inv X pins σ H s) (h : H p = some (.lst xs))
    (ho : s.heap.get? p = some { cls := .type "list", data := .seq its.toArray n }) (hf : f { cls := .type "list", data := .seq its.toArray n } = { cls := .type "list", data := .seq its'.toArray n' }) (r : Vals ys its') (hz : ys.length ≤ sizeLine) (t : Nat) :
    Inv X pins σ (upd H p (.lst ys)) { s with heap := s.heap.update p f, toks := t } := by
  have e : (s.heap.update p f).get? p = some { cls := .type "list", data := .seq its'.toArray n' } := by
    rw [Heap.get?_update_self f ho (by rw [hf] <;> rfl), hf]
  refine I.write (x := p) (e := p) (by rw [h]; trivial) (.inl rfl) (fun b u hb q => (Heap.get?_update_other _ _ (Ne.symm hb)).trans q) ⟨_, e⟩ ?_
  exact ⟨hz, its', n', r, e⟩
def rSetL : V → V → V → Hp → (Hp → Prop) → Prop := fun o i v H Q => ∃ p xs k j, o = .ref p ∧ i = .int k ∧ H p = some (.lst xs) ∧ ixN xs.length k = some j ∧ Q (upd H p (.lst (xs.set j v)))
theorem set_list : PSet X rSetL := by
  intro pins s σ H o i v ov iv u Q I ro ri rv h
  obtain ⟨p, xs, k, j, rfl, rfl, hp, hj, q⟩ := h
  cases ro
  obtain ⟨t, rfl⟩ := ri
  obtain ⟨its, n, r, ho, hz⟩ := I.lst hp
  obtain ⟨h1, h2, h3, h4⟩ := ixN_seq hj
  have hl := r.length
  have hn := line63
  have I' : Inv X pins σ (upd H p (.lst (xs.set j v))) { s with heap := s.heap.update p (Obj.mapSeq (·.setIfInBounds j u)) } :=
    I.lstUpd hp ho (mapSeq_set its n j u) (r.set rv j) (by rw [List.length_set]; exact hz) s.toks
  by_cases h0 : 0 ≤ k
  · have hk : k.toNat = j := by
      rw [seqIndex_of h0 h4] at h1
      exact Option.some.inj h1
    exact PySem.W.ki_setAt ho h0 (by omega) (by rw [List.size_toArray, ← hl]; exact h4) (by rw [hk]; exact ⟨_, I', q⟩)
  · have hk : (k + (its.toArray.size : Int)).toNat = j := by
      rw [seqIndex_neg (by omega) h3] at h1
      rw [List.size_toArray, ← hl]
      exact Option.some.inj h1
    exact PySem.W.ki_setBack ho (by omega) (by rw [List.size_toArray, ← hl]; exact h3) (by omega) (by rw [hk]; exact ⟨_, I', q⟩)
def rSlL (K : PySem.W.Frag) : V → Option Int → Option Int → Hp → VK → Prop := fun x lo hi H Q => ∃ a xs, x = .ref a ∧ SqL K H a xs ∧ ∀ p, H p = none → Q (.ref p) (upd H p (.lst (cutV xs lo hi)))
def flatV : V → Bool
  | .non => true
  | .bl _ => true
  | .int _ => true
  | .str _ => true
  | _ => false
def eqV : V → V → Bool
  | .non, .non => true
  | .bl a, .bl b => a == b
  | .bl a, .int b => (if a then 1 else 0) == b
  | .int a, .bl b => a == (if b then 1 else 0)
  | .int a, .int b => a == b
  | .str a, .str b => a == b
  | _, _ => false
theorem eqAt_V {A : Around} {s : Shared} {y x : V} {u v : Value} (ry : RelV y u) (rx : RelV x v) (fy : flatV y = true) (fx : flatV x = true) : SeqAt.EqAt A s u v (eqV y x) := by
  cases y with
  | non =>
    cases ry
    cases x with
    | non => cases rx; exact SeqAt.EqAt.same _
    | bl b => cases rx; exact SeqAt.EqAt.none_bool b
    | int b => obtain ⟨t, rfl⟩ := rx; exact SeqAt.EqAt.none_int b t
    | str b => obtain ⟨t, rfl⟩ := rx; exact SeqAt.EqAt.none_str b t
    | _ => exact absurd (show false = true from fx) Bool.false_ne_true
  | bl a =>
    cases ry
    cases x with
    | non => cases rx; exact SeqAt.EqAt.bool_none a
    | bl b => cases rx; exact SeqAt.EqAt.bool_bool a b
    | int b => obtain ⟨t, rfl⟩ := rx; exact SeqAt.EqAt.bool_int a b t
    | str b => obtain ⟨t, rfl⟩ := rx; exact SeqAt.EqAt.bool_str a b t
    | _ => exact absurd (show false = true from fx) Bool.false_ne_true
  | int a =>
    obtain ⟨t', rfl⟩ := ry
    cases x with
    | non => cases rx; exact SeqAt.EqAt.int_none a t'
    | bl b => cases rx; exact SeqAt.EqAt.int_bool a t' b
    | int b => obtain ⟨t, rfl⟩ := rx; exact SeqAt.EqAt.int_int a t' b t
    | str b => obtain ⟨t, rfl⟩ := rx; exact SeqAt.EqAt.int_str a t' b t
    | _ => exact absurd (show false = true from fx) Bool.false_ne_true
  | str a =>
    obtain ⟨t', rfl⟩ := ry
    cases x with
    | non => cases rx; exact SeqAt.EqAt.str_none a t'
    | bl b => cases rx; exact SeqAt.EqAt.str_bool a t' b
    | int b => obtain ⟨t, rfl⟩ := rx; exact SeqAt.EqAt.str_int a t' b t
    | str b => obtain ⟨t, rfl⟩ := rx; exact SeqAt.EqAt.str_str a t' b t
    | _ => exact absurd (show false = true from fx) Bool.false_ne_true
  | _ => exact absurd (show false = true from fy) Bool.false_ne_true
def inV (x : V) (xs : List V) : Bool := xs.any fun y => eqV y x
theorem call_len_seq : CallR X (.builtin "len") (fun xs H Q => ∃ p ys, xs = [.ref p] ∧ (SqL X.K H p ys ∨ SqT X.K H p ys) ∧ Q (.int ys.length) H) := by
  intro pins s σ H xs us Q I r h
  obtain ⟨p, ys, rfl, hq, q⟩ := h
  obtain ⟨u, rfl, rx⟩ := vals1 r
  cases rx
  have hn := line63
  rcases hq with hq | hq
  · obtain ⟨its, r', pl, hz⟩ := I.list hq
    have hlen := r'.length
    exact Calls.call_len_list pl.isList (by simp only [List.size_toArray] <;> omega) ⟨.int ys.length, H, I.tok _, ⟨s.toks + 1, by rw [List.size_toArray, hlen]⟩, q⟩
  · obtain ⟨its, r', pl, hz⟩ := I.tuple hq
    have hlen := r'.length
    exact len_tuple pl (by simp only [List.size_toArray] <;> omega) ⟨.int ys.length, H, I.tok _, ⟨s.toks + 1, by rw [List.size_toArray, hlen]⟩, q⟩
theorem CallR.or {f : Value} {r r' : List V → Hp → VK → Prop} (h : CallR X f r) (h' : CallR X f r') : CallR X f (fun xs H Q => r xs H Q ∨ r' xs H Q) := by
  intro pins s σ H xs us Q I rs q
  rcases q with q | q
  · exact h pins s σ H xs us Q I rs q
  · exact h' pins s σ H xs us Q I rs q
theorem call_tuple_of : CallR X (.type "tuple") (fun xs H Q => ∃ p ys, xs = [.ref p] ∧ ((SqL X.K H p ys ∧ ∀ l, H l = none → Q (.ref l) (upd H l (.tup ys))) ∨ (SqT X.K H p ys ∧ Q (.ref p) H))) := by
  intro pins s σ H xs us Q I r h
  obtain ⟨p, ys, rfl, h⟩ := h
  obtain ⟨u, rfl, rx⟩ := vals1 r
  cases rx
  rcases h with ⟨hq, q⟩ | ⟨hq, q⟩
  · obtain ⟨its, r', pl, hz⟩ := I.list hq
    have hlen := r'.length
    refine call_tuple_list pl.isList (fun h' kp => ?_) (by simp only [List.size_toArray] <;> omega)
    have I1 : Inv X pins σ H { s with heap := h' } := I.kept (t' := s.toks) kp
    have I2 : Inv X pins σ (upd H h'.objs.size (.tup ys)) { s with heap := h'.push { cls := .type "tuple", data := .seq its.toArray } } :=
      I1.laid (t' := s.toks) (fun b o e => Heap.get?_push_of_some _ e) (Nat.le_refl _) (show ObjOk X.prog X.w _ _ _ (.tup ys) from ⟨hz, its, r', IsTup.new _ _⟩)
    exact ⟨.ref h'.objs.size, _, I2, rfl, q _ (I1.hok.fresh (Nat.le_refl _))⟩
  · obtain ⟨its, r', pl, hz⟩ := I.tuple hq
    exact call_tuple_same pl ⟨.ref p, H, I, rfl, q⟩
def tyV (K : PySem.W.Frag) (T : String) (x : V) (H : Hp) : Prop := match x with
  | .str _ => T = "str"
  | .int _ => T = "int"
  | .ref p => (T = "list" ∧ ∃ xs, SqL K H p xs) ∨ (T = "tuple" ∧ ∃ o, K.lookup p = some o ∧ o.cls = .type "tuple" ∧ o.dict = none) ∨
      (T = "dict" ∧ ((∃ kvs, H p = some (.dK kvs)) ∨ ∃ kvs, H p = some (.dT kvs))) ∨ (T = "set" ∧ ∃ S n, H p = some (.set S n))
  | _ => False
def tBM0 (K : PySem.W.Frag) (T : String) (r : V → List V → Hp → VK → Prop) (to : TE) : TE := fun σ H Q => to σ H fun x H1 => tyV K T x H1 ∧ r x [] H1 Q
def tBM (K : PySem.W.Frag) (T : String) (r : V → List V → Hp → VK → Prop) (to : TE) (t : TA) : TE := fun σ H Q => to σ H fun x H1 => tyV K T x H1 ∧ t σ H1 fun xs H2 => r x xs H2 Q
variable {o e : Expr} {es : List Expr} {to : TE} {t : TA} {name : Str} {apos cpos : Pos} {T id : String} {r : V → List V → Hp → VK → Prop}
end
end L2
namespace L2
open PySem PySem.Spec PyProof.Rows
def MtM (X : Cx) (id : String) (r : V → List V → Hp → VK → Prop) : Prop :=
  ∀ (pins : List (Addr × Obj)) (s : Shared) (σ : St) (H : Hp) (x : V) (xs : List V) (v : Value) (us : List Value) (Q : VK), Inv X pins σ H s → RelV x v → Vals xs us → r x xs H Q →
    wpAny (model X.prog X.w) X.A (call (.builtin id) (v :: us)) (EP X pins σ Q) X.xe s
theorem Vals.one : ∀ {x : V} {us : List Value}, Vals [x] us → ∃ u, us = [u] ∧ RelV x u
  | _, _, .cons r .nil => ⟨_, rfl, r⟩
theorem Vals.two : ∀ {x y : V} {us : List Value}, Vals [x, y] us → ∃ u v, us = [u, v] ∧ RelV x u ∧ RelV y v
  | _, _, _, .cons r (.cons q .nil) => ⟨_, _, rfl, r, q⟩
theorem Vals.zero : ∀ {us : List Value}, Vals [] us → us = []
  | _, .nil => rfl
theorem Vals.dropLast {xs : List V} {us : List Value} (h : Vals xs us) : Vals xs.dropLast us.dropLast := by
  induction h with
  | nil => exact .nil
  | cons r t ih =>
    cases t with
    | nil => exact .nil
    | cons q t' => exact .cons r ih
theorem Vals.reverse {xs : List V} {us : List Value} (h : Vals xs us) : Vals xs.reverse us.reverse := by
  induction h with
  | nil => exact .nil
  | cons r t ih => rw [List.reverse_cons, List.reverse_cons]; exact Vals.append ih (.cons r .nil)
section
variable {X : Cx} {pins : List (Addr × Obj)} {σ : St} {H : Hp} {s : Shared} {l b : Addr} {xs ys zs : List V}
theorem Inv.lset {its its' : List Value} {n : Nat} {f : Array Value → Array Value} {t' : Nat} (I : Inv X pins σ H s) (hH : H l = some (.lst xs))
    (e : s.heap.get? l = some { cls := .type "list", data := .seq its.toArray n }) (hf : f its.toArray = its'.toArray) (hv : Vals ys its') (hz : ys.length ≤ sizeLine) :
    Inv X pins σ (upd H l (.lst ys)) { s with heap := s.heap.update l (Obj.mapSeq f), toks := t' } := by
  have q := PySem.IsL.update e f
  rw [hf] at q
  refine I.write (x := l) (e := l) (by rw [hH]; exact trivial) (.inl rfl) (fun b' u hb hu => (Heap.get?_update_other s.heap (Obj.mapSeq f) (Ne.symm hb)).trans hu) ⟨_, q⟩ ?_
  exact ⟨hz, its', _, hv, q⟩
theorem Inv.lnew {its : List Value} {t' : Nat} (I : Inv X pins σ H s) (hv : Vals ys its) (hz : ys.length ≤ sizeLine) :
    Inv X pins σ (upd H s.heap.objs.size (.lst ys)) { s with heap := s.heap.push { cls := .type "list", data := .seq its.toArray }, toks := t' } :=
  I.laid (fun _ _ q => Heap.get?_push_of_some _ q) (Nat.le_refl _) ⟨hz, its, 0, hv, Heap.get?_push_size _ rfl⟩
theorem Inv.fresh (I : Inv X pins σ H s) : H s.heap.objs.size = none := I.hok.fresh (Nat.le_refl _)
theorem Inv.lstM (I : Inv X pins σ H s) (hH : H l = some (.lst xs)) : xs.length ≤ sizeLine ∧ ∃ (its : List Value) (n : Nat), Vals xs its ∧ xs.length = its.length ∧ s.heap.get? l = some { cls := .type "list", data := .seq its.toArray n } := by
  obtain ⟨z, its, n, r, e⟩ := I.hok l _ hH
  exact ⟨z, its, n, r, r.length, e⟩
end
section
variable {X : Cx}
def rAppend : V → List V → Hp → VK → Prop := fun x vs H Q => ∃ l xs y, x = .ref l ∧ vs = [y] ∧ H l = some (.lst xs) ∧ xs.length < sizeLine ∧ Q .non (upd H l (.lst (xs ++ [y])))
theorem mt_append : MtM X "list.append" rAppend := by
  intro pins s σ H x vs v us Q I rx rv h
  obtain ⟨l, xs, y, rfl, rfl, hH, hz, q⟩ := h
  cases rx
  obtain ⟨u, rfl, ru⟩ := rv.one
  obtain ⟨z, its, n, r, hl, e⟩ := I.lstM hH
  refine call_meets F.slot_list_append ⟨_, e, rfl⟩ F.entry_list_append (F.args_list_append_2 _ _) (PySem.list_append l its.toArray n u (by rw [List.size_toArray]; omega)) ⟨e, ?_⟩
  refine ⟨.non, _, I.lset (its' := its ++ [u]) hH e (by simp) (r.append (.cons ru .nil)) ?_, rfl, q⟩
  rw [List.length_append, List.length_singleton]
  omega
def rExtend : V → List V → Hp → VK → Prop := fun x vs H Q => ∃ l b xs zs, x = .ref l ∧ vs = [.ref b] ∧ H l = some (.lst xs) ∧ H b = some (.lst zs) ∧ xs.length + zs.length ≤ sizeLine ∧ Q .non (upd H l (.lst (xs ++ zs)))
def rPop : V → List V → Hp → VK → Prop := fun x vs H Q => ∃ l xs y, x = .ref l ∧ vs = [] ∧ H l = some (.lst xs) ∧ xs[xs.length - 1]? = some y ∧ Q y (upd H l (.lst xs.dropLast))
def rReverse : V → List V → Hp → VK → Prop := fun x vs H Q => ∃ l xs, x = .ref l ∧ vs = [] ∧ H l = some (.lst xs) ∧ Q .non (upd H l (.lst xs.reverse))
def rClear : V → List V → Hp → VK → Prop := fun x vs H Q => ∃ l xs, x = .ref l ∧ vs = [] ∧ H l = some (.lst xs) ∧ Q .non (upd H l (.lst []))
def rCat : R2 := fun x y H Q => ∃ l b xs zs, x = .ref l ∧ y = .ref b ∧ H l = some (.lst xs) ∧ H b = some (.lst zs) ∧ xs.length + zs.length ≤ sizeLine ∧ ∀ p, H p = none → Q (.ref p) (upd H p (.lst (xs ++ zs)))
end
section
variable {prog : Program} {w : World} {A : Around} {E : Value → Shared → Prop} {s : Shared}
end
section
variable {X : Cx}
end
end L2
namespace L2
open PySem PySem.Spec PyProof.Rows
section
variable {κ : Type} [DecidableEq κ]
def valV (kvs : List (κ × V)) (k : κ) : Option V := (kvs.find? fun kv => decide (kv.1 = k)).map (·.2)
def putK (kvs : List (κ × V)) (k : κ) (v : V) : List (κ × V) :=
  if (kvs.any fun kv => decide (kv.1 = k)) = true then kvs.map (fun kv => if kv.1 = k then (kv.1, v) else kv) else kvs ++ [(k, v)]
def dropK (kvs : List (κ × V)) (k : κ) : List (κ × V) := kvs.filter fun kv => decide (kv.1 ≠ k)
theorem valV_pos {p : κ × V} {r : List (κ × V)} {k : κ} (e : p.1 = k) : valV (p :: r) k = some p.2 := by simp [valV, List.find?_cons, e]
theorem valV_neg {p : κ × V} {r : List (κ × V)} {k : κ} (e : ¬ p.1 = k) : valV (p :: r) k = valV r k := by simp [valV, List.find?_cons, e]
theorem valV_any (k : κ) : ∀ kvs : List (κ × V), (kvs.any fun kv => decide (kv.1 = k)) = (valV kvs k).isSome
  | [] => rfl
  | p :: r => by
    rw [List.any_cons]
    by_cases e : p.1 = k
    · simp only [valV_pos e, decide_eq_true e, Bool.true_or, Option.isSome_some]
    · rw [valV_neg e, decide_eq_false e, Bool.false_or]; exact valV_any k r
theorem valV_map (k j : κ) (y : V) : ∀ kvs : List (κ × V), valV (kvs.map fun kv => if kv.1 = k then (kv.1, y) else kv) j = (valV kvs j).map fun x => if j = k then y else x
  | [] => rfl
  | p :: r => by
    have ih := valV_map k j y r
    rw [List.map_cons]
    by_cases h : p.1 = k
    · rw [if_pos h]
      by_cases e : p.1 = j
      · rw [valV_pos (p := (p.1, y)) e, valV_pos e, Option.map_some, if_pos (e.symm.trans h)]
      · rw [valV_neg (p := (p.1, y)) e, valV_neg e, ih]
    · rw [if_neg h]
      by_cases e : p.1 = j
      · rw [valV_pos (p := p) e, valV_pos e, Option.map_some, if_neg (fun z => h (e.trans z))]
      · rw [valV_neg (p := p) e, valV_neg e, ih]
theorem valV_snoc (k j : κ) (y : V) : ∀ kvs : List (κ × V), valV kvs k = none → valV (kvs ++ [(k, y)]) j = if j = k then some y else valV kvs j
  | [], _ => by
    by_cases e : k = j
    · rw [if_pos e.symm]; exact valV_pos (p := (k, y)) e
    · rw [if_neg (fun z => e z.symm)]; exact valV_neg (p := (k, y)) e
  | p :: r, hn => by
    rw [List.cons_append]
    have hk : ¬ p.1 = k := fun z => by rw [valV_pos z] at hn; cases hn
    rw [valV_neg hk] at hn
    have ih := valV_snoc k j y r hn
    by_cases e : p.1 = j
    · rw [valV_pos e, valV_pos e, if_neg (fun z => hk (e.trans z))]
    · rw [valV_neg e, valV_neg e, ih]
theorem valV_put (kvs : List (κ × V)) (k j : κ) (y : V) : valV (putK kvs k y) j = if j = k then some y else valV kvs j := by
  unfold putK
  by_cases a : (kvs.any fun kv => decide (kv.1 = k)) = true
  · rw [if_pos a, valV_map]
    rw [valV_any] at a
    by_cases e : j = k
    · obtain ⟨x, hx⟩ := Option.isSome_iff_exists.mp a
      rw [if_pos e, e, hx, Option.map_some, if_pos rfl]
    · rw [if_neg e]
      cases valV kvs j with
      | none => rfl
      | some x => rw [Option.map_some, if_neg e]
  · rw [if_neg a]
    refine valV_snoc k j y kvs ?_
    rw [valV_any] at a
    cases q : valV kvs k with
    | none => rfl
    | some x => rw [q] at a; exact (a rfl).elim
theorem length_putK (kvs : List (κ × V)) (k : κ) (v : V) : (putK kvs k v).length ≤ kvs.length + 1 := by
  unfold putK
  split
  · rw [List.length_map]; omega
  · rw [List.length_append, List.length_cons, List.length_nil]; omega
theorem putK_new {kvs : List (κ × V)} {k : κ} (v : V) (h : valV kvs k = none) : putK kvs k v = kvs ++ [(k, v)] := by
  unfold putK
  rw [valV_any, h]
  exact if_neg (by decide)
theorem RelO.isSome_eq {o : Option V} {u : Option Value} (r : RelO o u) : o.isSome = u.isSome := by
  cases o with
  | none => cases u with
    | none => rfl
    | some _ => exact (show False from r).elim
  | some _ => cases u with
    | none => exact (show False from r).elim
    | some _ => rfl
theorem RelO.getD {o : Option V} {u : Option Value} {d : V} {d' : Value} (r : RelO o u) (rd : RelV d d') : RelV (o.getD d) (u.getD d') := by
  cases o with
  | none => cases u with
    | none => exact rd
    | some _ => exact (show False from r).elim
  | some _ => cases u with
    | none => exact (show False from r).elim
    | some _ => exact r
theorem KV.val {kvs : List (κ × V)} {vs : List (κ × Value)} (r : KV kvs vs) (k : κ) : RelO (valV kvs k) (valueAt vs k) := by
  unfold KV at r
  induction r with
  | nil => exact True.intro
  | @cons p q ps qs h t ih =>
    obtain ⟨h1, h2⟩ := h
    by_cases e : p.1 = k
    · have e' : q.1 = k := h1.symm.trans e
      have b : valueAt (q :: qs) k = some q.2 := by simp [valueAt, List.find?_cons, e']
      rw [valV_pos e, b]; exact h2
    · have e' : ¬ q.1 = k := fun z => e (h1.trans z)
      have b : valueAt (q :: qs) k = valueAt qs k := by simp [valueAt, List.find?_cons, e']
      rw [valV_neg e, b]; exact ih
theorem KV.any {kvs : List (κ × V)} {vs : List (κ × Value)} (r : KV kvs vs) (k : κ) : (kvs.any fun kv => decide (kv.1 = k)) = vs.any fun kv => decide (kv.1 = k) := by
  unfold KV at r
  induction r with
  | nil => rfl
  | cons h t ih => rw [List.any_cons, List.any_cons, ih, h.1]
theorem KV.repl {kvs : List (κ × V)} {vs : List (κ × Value)} (r : KV kvs vs) (k : κ) {y : V} {u : Value} (ry : RelV y u) :
    KV (kvs.map fun kv => if kv.1 = k then (kv.1, y) else kv) (vs.map fun kv => if kv.1 = k then (kv.1, u) else kv) := by
  unfold KV at r ⊢
  induction r with
  | nil => exact .nil
  | @cons p q ps qs h t ih =>
    rw [List.map_cons, List.map_cons]
    refine .cons ?_ ih
    obtain ⟨h1, h2⟩ := h
    by_cases e : p.1 = k
    · rw [if_pos e, if_pos (h1.symm.trans e)]; exact ⟨h1, ry⟩
    · rw [if_neg e, if_neg (fun z => e (h1.trans z))]; exact ⟨h1, h2⟩
theorem KV.put {kvs : List (κ × V)} {vs : List (κ × Value)} (r : KV kvs vs) (k : κ) {y : V} {u : Value} (ry : RelV y u) : KV (putK kvs k y) (stored vs k u) := by
  unfold putK stored
  rw [r.any k]
  by_cases e : (vs.any fun kv => decide (kv.1 = k)) = true
  · rw [if_pos e, if_pos e]; exact r.repl k ry
  · rw [if_neg e, if_neg e]; exact Paired.snoc r ⟨rfl, ry⟩
theorem KV.drop {kvs : List (κ × V)} {vs : List (κ × Value)} (r : KV kvs vs) (k : κ) : KV (dropK kvs k) (without vs k) := by
  unfold KV at r ⊢
  unfold dropK without
  induction r with
  | nil => exact .nil
  | @cons p q ps qs h t ih =>
    obtain ⟨h1, h2⟩ := h
    rw [List.filter_cons, List.filter_cons]
    by_cases e : p.1 = k
    · have a : ¬ decide (p.1 ≠ k) = true := by simp [e]
      have b : ¬ decide (q.1 ≠ k) = true := by simp [h1.symm.trans e]
      rw [if_neg a, if_neg b]; exact ih
    · have e' : ¬ q.1 = k := fun z => e (h1.trans z)
      have a : decide (p.1 ≠ k) = true := by simp [e]
      have b : decide (q.1 ≠ k) = true := by simp [e']
      rw [if_pos a, if_pos b]; exact .cons ⟨h1, h2⟩ ih
theorem KV.keys {kvs : List (κ × V)} {vs : List (κ × Value)} (r : KV kvs vs) : kvs.map (·.1) = vs.map (·.1) := by
  unfold KV at r
  induction r with
  | nil => rfl
  | cons h t ih => rw [List.map_cons, List.map_cons, ih, h.1]
theorem KV.length {kvs : List (κ × V)} {vs : List (κ × Value)} (r : KV kvs vs) : kvs.length = vs.length := Paired.length r
end
theorem kV_is {P : Program} {w : World} {k : Key} {u : Value} (r : RelV (kV k) u) : (mixKind P w).is k u = true := by
  cases k with
  | inl i => obtain ⟨t, e⟩ := (show ∃ t, u = Value.int i t from r); subst e; exact mixKind_int P w i t
  | inr x => obtain ⟨t, e⟩ := (show ∃ t, u = Value.str x t from r); subst e; exact mixKind_str P w x t
abbrev KT (H : Hp) : List (List Key × V) → List (List Key × Addr × Value) → Prop := Paired fun p q => p.1 = q.1 ∧ H q.2.1 = some (.tup (p.1.map kV)) ∧ RelV p.2 q.2.2
theorem KT.val {H : Hp} {kvs : List (List Key × V)} {xs : List (List Key × Addr × Value)} (r : KT H kvs xs) (k : List Key) : RelO (valV kvs k) ((atKey xs k).map (·.2)) := by
  induction r with
  | nil => exact True.intro
  | @cons p q ps qs h t ih =>
    obtain ⟨h1, _, h2⟩ := h
    by_cases e : p.1 = k
    · have e' : q.1 = k := h1.symm.trans e
      have b : atKey (q :: qs) k = some q.2 := by simp [atKey, List.find?_cons, e']
      rw [valV_pos e, b]; exact h2
    · have e' : ¬ q.1 = k := fun z => e (h1.trans z)
      have b : atKey (q :: qs) k = atKey qs k := by simp [atKey, List.find?_cons, e']
      rw [valV_neg e, b]; exact ih
theorem KT.repl {H : Hp} {kvs : List (List Key × V)} {xs : List (List Key × Addr × Value)} (r : KT H kvs xs) (k : List Key) {y : V} {u : Value} (ry : RelV y u) :
    KT H (kvs.map fun kv => if kv.1 = k then (kv.1, y) else kv) (xs.map (putAt k u)) := by
  induction r with
  | nil => exact .nil
  | @cons p q ps qs h t ih =>
    rw [List.map_cons, List.map_cons]
    refine .cons ?_ ih
    obtain ⟨h1, h2, h3⟩ := h
    unfold putAt
    by_cases e : p.1 = k
    · rw [if_pos e, if_pos (h1.symm.trans e)]; exact ⟨h1, h2, ry⟩
    · rw [if_neg e, if_neg (fun z => e (h1.trans z))]; exact ⟨h1, h2, h3⟩
theorem KT.put {H : Hp} {kvs : List (List Key × V)} {xs : List (List Key × Addr × Value)} (r : KT H kvs xs) (k : List Key) {b : Addr} {y : V} {u : Value} (hb : H b = some (.tup (k.map kV))) (ry : RelV y u) :
    KT H (putK kvs k y) (storedH xs k b u) := by
  have e : (kvs.any fun kv => decide (kv.1 = k)) = (atKey xs k).isSome := by
    rw [valV_any, (r.val k).isSome_eq, Option.isSome_map]
  unfold putK storedH
  rw [e]
  by_cases q : (atKey xs k).isSome = true
  · rw [if_pos q, if_pos q]; exact r.repl k ry
  · rw [if_neg q, if_neg q]; exact Paired.snoc r ⟨rfl, hb, ry⟩
theorem KT.keeps {H H' : Hp} {kvs : List (List Key × V)} {xs : List (List Key × Addr × Value)} (r : KT H kvs xs) (ht : ∀ b ys, H b = some (.tup ys) → H' b = some (.tup ys)) : KT H' kvs xs :=
  Paired.mapP r fun _ _ z => ⟨z.1, ht _ _ z.2.1, z.2.2⟩
section
variable {P : Program} {w : World} {H : Hp} {h : Heap} {a : Addr}
theorem rd_of {u : HO} (ok : HOk P w H h) (e : Rd H a u) : ObjOk P w H h a u := e.ok ok
theorem dk_rd {kvs : List (Key × V)} (ok : HOk P w H h) (e : Rd H a (.dK kvs)) : kvs.length ≤ sizeLine ∧ (a == sysModules) = false ∧ ∃ vs, KV kvs vs ∧ h.DictOf (mixKind P w) a vs :=
  show ObjOk P w H h a (.dK kvs) from rd_of ok e
theorem dk_of {kvs : List (Key × V)} (ok : HOk P w H h) (e : H a = some (.dK kvs)) : kvs.length ≤ sizeLine ∧ (a == sysModules) = false ∧ ∃ vs, KV kvs vs ∧ h.DictOf (mixKind P w) a vs := dk_rd ok (.inl e)
end
def DGet (H : Hp) (a : Addr) (y : V) (r : Option V) : Prop :=
  (∃ kvs k, Rd H a (.dK kvs) ∧ y = kV k ∧ r = valV kvs k) ∨ ∃ kvs k b, Rd H a (.dT kvs) ∧ y = .ref b ∧ H b = some (.tup (k.map kV)) ∧ r = valV kvs k
def DPut (H : Hp) (a : Addr) (y v : V) (H' : Hp) : Prop :=
  (∃ kvs k, H a = some (.dK kvs) ∧ y = kV k ∧ kvs.length < sizeLine ∧ H' = upd H a (.dK (putK kvs k v))) ∨
  ∃ kvs k b, H a = some (.dT kvs) ∧ y = .ref b ∧ H b = some (.tup (k.map kV)) ∧ kvs.length < sizeLine ∧ H' = upd H a (.dT (putK kvs k v))
theorem DGet.k {H : Hp} {a : Addr} {kvs : List (Key × V)} {k : Key} (e : H a = some (.dK kvs)) : DGet H a (kV k) (valV kvs k) := .inl ⟨kvs, k, .inl e, rfl, rfl⟩
theorem DGet.t {H : Hp} {a b : Addr} {kvs : List (List Key × V)} {k : List Key} (e : H a = some (.dT kvs)) (eb : H b = some (.tup (k.map kV))) : DGet H a (.ref b) (valV kvs k) := .inr ⟨kvs, k, b, .inl e, rfl, eb, rfl⟩
theorem DPut.k {H : Hp} {a : Addr} {kvs : List (Key × V)} {k : Key} {v : V} (e : H a = some (.dK kvs)) (hl : kvs.length < sizeLine) : DPut H a (kV k) v (upd H a (.dK (putK kvs k v))) := .inl ⟨kvs, k, e, rfl, hl, rfl⟩
theorem DPut.t {H : Hp} {a b : Addr} {kvs : List (List Key × V)} {k : List Key} {v : V} (e : H a = some (.dT kvs)) (eb : H b = some (.tup (k.map kV))) (hl : kvs.length < sizeLine) :
    DPut H a (.ref b) v (upd H a (.dT (putK kvs k v))) := .inr ⟨kvs, k, b, e, rfl, eb, hl, rfl⟩
section
variable {X : Cx} {pins : List (Addr × Obj)} {σ : St} {H : Hp} {s : Shared} {a : Addr} {y v : V} {u r : Value} {o : Option V} {A : Around} {E : Value → Shared → Prop}
theorem Inv.big (I : Inv X pins σ H s) : sysModules < s.heap.objs.size := by
  have h : mainGlobals < s.heap.objs.size := (I.mod.glob.keeps I.bk).lt
  exact Nat.lt_trans (by decide) h
theorem d_write {h' : Heap} {t' : Nat} {ob : HO} (I : Inv X pins σ H s) (mu : Mut (H a)) (hs : Heap.SameBut a s.heap h') (he : ∃ q, h'.get? a = some q) (new : ObjOk X.prog X.w (upd H a ob) h' a ob) :
    Inv X pins σ (upd H a ob) { s with heap := h', toks := t' } :=
  I.write (x := a) (e := a) mu (.inl rfl) (fun b q hb z => (hs.2 b hb).trans z) he new
theorem dk_new {P : Program} {w : World} {H' : Hp} {h' : Heap} {kvs : List (Key × V)} {vs : List (Key × Value)} (z : kvs.length ≤ sizeLine) (hd : (a == sysModules) = false) (rel : KV kvs vs) (dd : h'.DictOf (mixKind P w) a vs) :
    ObjOk P w H' h' a (.dK kvs) := ⟨z, hd, vs, rel, dd⟩
end
section
variable {X : Cx} {pins : List (Addr × Obj)} {σ : St} {H : Hp} {s : Shared} {a : Addr} {kvs : List (Key × V)} {k : Key} {u : Value} {A : Around} {E : Value → Shared → Prop}
end
section
variable {X : Cx} {o i e value : Expr} {pos pos' tpos : Pos} {td ty tv : TE}
end
theorem dk_empty {P : Program} {w : World} {H : Hp} (h : Heap) (hb : sysModules < h.objs.size) : ObjOk P w H (h.push { cls := .type "dict", data := .dict #[] }) h.objs.size (.dK []) :=
  ⟨Nat.zero_le _, beq_eq_false_iff_ne.mpr (Ne.symm (Nat.ne_of_lt hb)), [], .nil, Heap.DictOf.new h⟩
def tDNewK : TE := fun _ H Q => ∀ p, H p = none → Q (.ref p) (upd H p (.dK []))
section
variable {X : Cx} {pos : Pos}
theorem pe_dnewK : PE X (.Dict [] [] pos) tDNewK := fun pins s σ H Q I h =>
  wpAny_Dict_empty ⟨.ref s.heap.objs.size, _, I.laid (a := s.heap.objs.size) (o := .dK []) (t' := s.toks) (fun _ _ q => Heap.get?_push_of_some _ q) (Nat.le_refl _) (dk_empty s.heap I.big), rfl, h _ (I.hok.fresh (Nat.le_refl _))⟩
end
def tPairs : List (TE × TE) → St → Hp → (List (V × V) → Hp → Prop) → Prop
  | [], _, H, Q => Q [] H
  | (tk, tv) :: r, σ, H, Q => tk σ H fun x H1 => tv σ H1 fun y H2 => tPairs r σ H2 fun ps H3 => Q ((x, y) :: ps) H3
abbrev VV : List (V × V) → List (Value × Value) → Prop := Paired fun p q => RelV p.1 q.1 ∧ RelV p.2 q.2
def PPs (X : Cx) (pos : Pos) (keys : List (Option Expr)) (values : List Expr) (trs : List (TE × TE)) : Prop :=
  ∀ (pins : List (Addr × Obj)) (s : Shared) (σ : St) (H : Hp) (Q : List (V × V) → Hp → Prop), Inv X pins σ H s → tPairs trs σ H Q →
    wpAny (model X.prog X.w) X.A (evalPairs (pairTrees keys values X.env pos)) (fun vs s' => ∃ ps H', Inv X pins σ H' s' ∧ VV ps vs ∧ Q ps H') X.xe s
theorem pps_nil {X : Cx} {pos : Pos} : PPs X pos [] [] [] := fun pins s σ H Q I h => pairTrees_nil_walk ⟨[], H, I, .nil, h⟩
theorem pps_cons {X : Cx} {pos : Pos} {k v : Expr} {ks : List (Option Expr)} {vs : List Expr} {tk tv : TE} {trs : List (TE × TE)} (hk : PE X k tk) (hv : PE X v tv) (hr : PPs X pos ks vs trs) :
    PPs X pos (some k :: ks) (v :: vs) ((tk, tv) :: trs) := fun pins s σ H Q I h =>
  pairTrees_cons_walk (thn (hk pins s σ H _ I h) fun u s1 ⟨x, H1, I1, rx, q1⟩ => thn (hv pins s1 σ H1 _ I1 q1) fun w2 s2 ⟨y, H2, I2, ry, q2⟩ =>
    thn (hr pins s2 σ H2 _ I2 q2) fun ws s3 ⟨ps, H3, I3, rel, q3⟩ => ⟨(x, y) :: ps, H3, I3, .cons ⟨rx, ry⟩ rel, q3⟩)
def mergeK (kvs more : List (Key × V)) : List (Key × V) := more.foldl (fun acc kv => putK acc kv.1 kv.2) kvs
theorem KV.merge : ∀ {more : List (Key × V)} {rs : List (Key × Value)} {kvs : List (Key × V)} {vs : List (Key × Value)}, KV more rs → KV kvs vs → KV (mergeK kvs more) (merged vs rs) := by
  intro more rs kvs vs r
  unfold KV at r
  induction r generalizing kvs vs with
  | nil => intro q; exact q
  | @cons p q ps qs h t ih =>
    intro r0
    have e : KV (putK kvs p.1 p.2) (stored vs q.1 q.2) := by
      have := r0.put p.1 h.2
      rw [← h.1]; exact this
    exact ih e
theorem length_mergeK : ∀ (more kvs : List (Key × V)), (mergeK kvs more).length ≤ kvs.length + more.length
  | [], kvs => by show kvs.length ≤ kvs.length + 0; omega
  | p :: r, kvs => by
    have h1 := length_mergeK r (putK kvs p.1 p.2)
    have h2 := length_putK kvs p.1 p.2
    show (mergeK (putK kvs p.1 p.2) r).length ≤ _
    rw [List.length_cons]; omega
theorem carries_of {P : Program} {w : World} : ∀ {kvs : List (Key × V)} {ws : List (Value × Value)}, VV (kvs.map fun kv => (kV kv.1, kv.2)) ws → ∃ rs, Carries (mixKind P w) ws rs ∧ KV kvs rs
  | [], _, r => by rw [List.map_nil] at r; cases r; exact ⟨[], True.intro, .nil⟩
  | p :: kvs, _, r => by
    rw [List.map_cons] at r
    cases r with
    | @cons a b as bs h t =>
      obtain ⟨rs, c, q⟩ := carries_of (P := P) (w := w) t
      obtain ⟨b1, b2⟩ := b
      exact ⟨(p.1, b2) :: rs, ⟨kV_is h.1, rfl, c⟩, .cons ⟨rfl, h.2⟩ q⟩
def tDisp (trs : List (TE × TE)) : TE := fun σ H Q => ∀ p, H p = none → tPairs trs σ (upd H p (.dK [])) fun ps H2 => H2 p = some (.dK []) ∧ ∃ kvs : List (Key × V), ps = kvs.map (fun kv => (kV kv.1, kv.2)) ∧ kvs.length ≤ 15 ∧ Q (.ref p) (upd H2 p (.dK (mergeK [] kvs)))
theorem pe_disp {X : Cx} {pos : Pos} {keys : List (Option Expr)} {values : List Expr} {trs : List (TE × TE)} (h : PPs X pos keys values trs) (hall : keys.all (·.isSome) = true) (hl : keys.length = values.length) (h0 : keys ≠ [])
    (h15 : keys.length ≤ 15) : PE X (.Dict keys values pos) (tDisp trs) := by
  intro pins s σ H Q I q
  have hn := I.hok.fresh (Nat.le_refl s.heap.objs.size)
  have I1 := I.laid (a := s.heap.objs.size) (o := .dK []) (h' := s.heap.push { cls := .type "dict", data := .dict #[] }) (t' := s.toks) (fun _ _ q => Heap.get?_push_of_some _ q) (Nat.le_refl _) (dk_empty s.heap I.big)
  refine wpAny_Dict_walk (knd := mixKind X.prog X.w) hall hl h0 h15 (thn (h pins _ σ _ _ I1 (q _ hn)) fun ws s2 ⟨ps, H2, I2, rel, e, kvs, ep, lk, q2⟩ => ?_)
  subst ep
  obtain ⟨rs, c, rk⟩ := carries_of (P := X.prog) (w := X.w) rel
  obtain ⟨z, hd, vs0, r0, dd⟩ := dk_of I2.hok e
  cases r0
  refine ⟨rs, c, dd, fun h' dd' hs => ⟨.ref s.heap.objs.size, _, ?_, rfl, q2⟩⟩
  have hz : (mergeK [] kvs).length ≤ sizeLine := by
    have h1 := length_mergeK kvs []
    rw [List.length_nil] at h1
    rw [sizeLine_eq]; omega
  have he : ∃ q, h'.get? s.heap.objs.size = some q := let ⟨q, _, _, hq, _⟩ := dd'; ⟨q, hq⟩
  exact d_write I2 (by rw [e]; exact True.intro) hs he (dk_new hz hd (rk.merge .nil) dd')
section
variable {X : Cx} {pins : List (Addr × Obj)} {σ : St} {H : Hp} {s : Shared} {a : Addr} {y d : V} {u r : Value} {o : Option V} {A : Around} {E : Value → Shared → Prop}
end
section
variable {X : Cx} {o e f : Expr} {apos cpos : Pos} {td ty tx : TE}
end
section
variable {X : Cx} {pins : List (Addr × Obj)} {σ : St} {H : Hp} {s : Shared} {a : Addr} {kvs : List (Key × V)} {A : Around} {E : Value → Shared → Prop}
end
section
variable {X : Cx} {pins : List (Addr × Obj)} {σ : St} {H : Hp} {s : Shared} {a : Addr} {y : V} {u : Value} {A : Around} {E : Value → Shared → Prop}
end
end L2
namespace Att
open PySem PySem.W PySem.Calls PyProof.Rows
theorem ints_of_wellAll {P : Params} {h : Heap} : ∀ (ns : List Int) (vs : List Value), WellAll P h vs (ns.map WData.int) → IntsAre vs ns := by
  intro ns
  induction ns with
  | nil =>
    intro vs w
    rw [List.map_nil] at w
    cases w
    exact .nil
  | cons n ns ih =>
    intro vs w
    rw [List.map_cons] at w
    cases w with
    | cons a b =>
      cases a
      exact .cons _ _ (ih _ b)
theorem script_of {l : OpenLaw} {n : Nat} (hn : l.most = some n) {P : Params} {h : Heap} {args : List WData} {vals : List Value}
    (hpre : l.row.toRowW.claim.pre args = true) (hwl : WellAll P h vals args) :
    ∃ a vs ns, vals = [Value.ref a] ∧ args = [WData.list (ns.map WData.int)] ∧ h.get? a = some { cls := .type "list", data := .seq vs.toArray } ∧ IntsAre vs ns ∧ ns.length ≤ n := by
  have hsh : WShape.hasAll [] args [.list .int] = true := (pre_splitW hpre).1
  have hc : l.pre.holds [] { args := args } = true := (pre_splitW hpre).2
  obtain ⟨d, r, rfl, h1, h2⟩ := hasAllW_cons hsh
  obtain rfl := hasAllW_nil h2
  obtain ⟨xs, rfl, h3⟩ := hasW_list h1
  obtain ⟨ns, rfl⟩ := items_int h3
  have hlen : ns.length ≤ n := by
    unfold OpenLaw.pre at hc
    have h4 : (WTm.not (.lt (.lit (.int (n : Int))) (.len (.arg 0)))).holds [] { args := [.list (ns.map .int)] } = true := by
      have h4 := (holds_andW hc).1
      rw [hn] at h4
      exact h4
    have h5 := condW_of h4 (w_not (w_lt w_lit (w_len_list (w_arg rfl))))
    rw [List.length_map] at h5
    refine Nat.le_of_not_lt fun q => ?_
    have q' : (n : Int) < ((ns.length : Nat) : Int) := by omega
    first
      | (rw [decide_eq_true q'] at h5; exact absurd h5 (by decide))
      | (simp at h5; omega)
  cases hwl with
  | cons w1 w2 =>
    cases w2
    cases w1 with
    | list ho hall => exact ⟨_, _, ns, rfl, rfl, ho, ints_of_wellAll ns _ hall, hlen⟩
theorem post_true (l : OpenLaw) (args : List WData) : l.row.toRowW.claim.post args (.bool true) args = true :=
  postW_of (r := l.row.toRowW) (X := (true == true))
    (show WShape.has [] (.bool true) .bool = true by first | rfl | decide | simp [WShape.has, WShape.arms, WShape.armsAll])
    (show (WTm.eq .res (.lit (.bool true))).value [] { args := args, res := some (.bool true), after := args } = some (.bool (true == true)) from w_eq_bool (w_res rfl) w_lit) rfl
theorem attach_call {l : OpenLaw} {n : Nat} {q : Program} {loose : List Str} {XP : (Str → Option Value) → Heap → Prop} {YP : World → Heap → Prop} {d : DefRec}
    (hn : l.most = some n) (hdf : d.params.defaults = [])
    (call : ∀ (w : World) (s₀ s₁ : Shared) (mg mb : Str → Option Value) (fa : Addr) (o : Obj) (pm cd doc : Value) (a : Addr) (vs : List Value) (ns : List Int),
      Ground q loose [] XP w s₀ mg mb s₁.heap → YP w s₁.heap →
      s₁.heap.get? fa = some o → o.data = .func (docDef d.name d.params d.body d.scope pm cd doc) → s₁.heap.CodeRec cd d.name → mg d.name = some (.ref fa) →
      s₁.heap.get? a = some { cls := .type "list", data := .seq vs.toArray } → IntsAre vs ns → ns.length ≤ n → s₁.gens = #[] →
      codeAny (model l.prog w) callerA (.call (.ref fa) ⟨[.ref a], []⟩) (fun r s' => r = .ok (.ret (.bool true)) ∧ OldK s₁.heap s'.heap ∧ s'.os = s₁.os ∧ AllBare s'.gens) s₁) :
    WalkO q loose XP YP l.row.toRowW d [] (fun f vs => PySem.call f vs) := by
  intro w s₀ s₁ mg mb G Y fa o pm cd doc dV kV ho hd hcd hD hmg hg args vals as hpre hlay hrd hwl hlo
  obtain rfl : dV = .none := Dflts.none hD hdf
  obtain rfl : kV = .none := Dflts.noKw hD
  obtain ⟨a, vs, ns, rfl, rfl, hobj, hints, hlen⟩ := script_of hn hpre hwl
  refine enter_call (codeAny_mono (call w s₀ s₁ mg mb fa o pm cd doc a vs ns G Y ho (fd_plain hd) hcd hmg hobj hints hlen hg) fun r s' hq => ?_)
  obtain ⟨rfl, h2, h3, h4⟩ := hq
  exact ⟨.inl ⟨.bool true, .bool true, [], rfl, fun _ => rfl, .bool true, post_true l _, fun _ => ⟨List.Pairwise.nil, fun _ hm => (nomatch hm)⟩⟩, h2, h3, h4⟩
section
variable {prog : Program} {w : World} {A : Around} {E : Value → Shared → Prop} {s : Shared} {K : Frag}
end
end Att
namespace L2
open PySem PySem.Spec PyProof.Rows
theorem vals_ints : ∀ {vs : List Value} {ns : List Int}, IntsAre vs ns → Vals (ns.map V.int) vs
  | _, _, .nil => .nil
  | _, _, .cons n t h => .cons ⟨t, rfl⟩ (vals_ints h)
def Only (H : Hp) : Prop := ∀ b, H b = none ∨ ∃ o xs, H b = some (.frz o (.lst xs))
theorem law_call {P : Program} {w : World} {K : PySem.W.Frag} {mg mb : Str → Option Value} {CX : CXT} {k : Nat} {fa a : Addr} {fd : FuncData} {x : Str} {sp : Sp} {s₁ : Shared} {vs : List Value} {ns : List Int}
    (KX : K.In s₁.heap) (hns : s₁.heap.Ns mainGlobals mg) (hb : s₁.heap.Ns builtinsNs mb) (hbb : ∀ x : Str, x ≠ "__name__" → mb x = bootBuiltins x) (hlim : s₁.heap.NoLimit) (hg : s₁.gens = #[])
    (ha : s₁.heap.get? a = some { cls := .type "list", data := .seq vs.toArray }) (hi : IntsAre vs ns) (hl : ns.length ≤ sizeLine) (hr : Room k callerA)
    (F : ∀ base : Heap, K.In base → base.Ns mainGlobals mg → FnOk P w K mg base CX k fa fd [x] sp) (hbind : ∀ (s : Shared) (u : Value), BindsTo s fd ⟨[u], []⟩ [(x, u)])
    (hsp : ∀ H : Hp, Only H → SqL K H a (ns.map V.int) → sp [.ref a] H (fun v _ => v = .bl true) fun _ _ _ => False)
    (hCX : ∀ H e s', CX [] H s₁ (fun _ _ _ => False) e s' → False) :
    codeAny (model P w) callerA (.call (.ref fa) ⟨[.ref a], []⟩) (fun r s' => r = .ok (.ret (.bool true)) ∧ OldK s₁.heap s'.heap ∧ s'.os = s₁.os ∧ AllBare s'.gens) s₁ := by
  have rv := vals_ints hi
  have lenV := hi.length
  -- from an abstract heap in which nothing but the script may be tracked
  have core : ∀ H : Hp, Only H → SqL K H a (ns.map V.int) → HOk P w H s₁.heap → (∀ b, H b ≠ none → b = a) → (H a ≠ none → K.lookup a = none) →
      codeAny (model P w) callerA (.call (.ref fa) ⟨[.ref a], []⟩) (fun r s' => r = .ok (.ret (.bool true)) ∧ OldK s₁.heap s'.heap ∧ s'.os = s₁.os ∧ AllBare s'.gens) s₁ := by
    intro H hO hS hok hA hK
    have base_of : ∀ {b : Addr} {o : Obj}, s₁.heap.get? b = some o → H b = none → (hidT s₁.heap H).get? b = some o := fun e n => hidT_get e n
    have noA : ∀ {b : Addr} {o : Obj} {es : Array DictEntry} {ep : Nat}, s₁.heap.get? b = some o → o.data = .dict es ep → H b = none := fun {b o es ep} e d => by
      cases q : H b with
      | none => rfl
      | some u =>
        have e' : b = a := hA b (by rw [q]; simp)
        subst e'
        rw [ha] at e; cases e
        have d' : Data.seq vs.toArray _ = Data.dict es ep := d
        cases d'
    have nsK : ∀ {b : Addr} {m : Str → Option Value}, s₁.heap.Ns b m → (hidT s₁.heap H).Ns b m := fun {b m} ⟨o, es, ep, e, d, r⟩ => ⟨o, es, ep, base_of e (noA e d), d, r⟩
    have hKb : K.In (hidT s₁.heap H) := fun b o e => base_of (KX b o e) (by
      cases q : H b with
      | none => rfl
      | some u =>
        have e' : b = a := hA b (by rw [q]; simp)
        subst e'
        rw [hK (by rw [q]; simp)] at e; cases e)
    have hM : Mod K mg (hidT s₁.heap H) := ⟨hKb, nsK hns, ⟨mb, nsK hb, hbb⟩, let ⟨mc, h1, h2⟩ := hlim; ⟨mc, nsK h1, h2⟩⟩
    have e0 : Env0 P w K mg (hidT s₁.heap H) callerA [] s₁ H := ⟨rfl, hM, fun b o e => of_hidT e, Nat.le_of_eq (hidT_size _ _), trivial, fun b hb => absurd (show b ∈ ([] : List Addr) from hb) (by simp), hok, .of_eq hg⟩
    refine codeAny_mono ((F _ hKb (nsK hns)).run callerA [] s₁ H ⟨[.ref a], []⟩ [.ref a] [.ref a] _ _ hr e0 (hbind s₁ (.ref a)) (.cons rfl .nil) (hsp H hO hS)) fun r s' h => ?_
    cases r with
    | error e => exact (hCX H e s' h).elim
    | ok fl =>
      cases fl with
      | next => exact False.elim h
      | brk => exact False.elim h
      | cont => exact False.elim h
      | ret u =>
        obtain ⟨v, H', os, bare, un, hok', r', q⟩ := h
        have q' : v = .bl true := q
        subst q'
        obtain rfl : u = Value.bool true := r'
        refine ⟨rfl, OldK.of_keep fun b o e => ?_, os, bare⟩
        cases q : H b with
        | none => exact un.keep b o e q (by intro z; exact absurd (show b ∈ ([] : List Addr) from z) (by simp)) (by simp)
        | some u =>
          rcases hO b with z | ⟨ob, xs, z⟩
          · rw [q] at z; cases z
          · have z2 := un.frzs b ob _ z
            obtain ⟨e1, _⟩ := hok b _ z
            obtain ⟨e2, _⟩ := hok' b _ z2
            rw [e] at e1; cases e1
            exact e2
  cases hk : K.lookup a with
  | some o =>
    -- the script is one of the module's own objects
    have e := KX a o hk
    rw [ha] at e
    cases e
    refine core (fun _ => none) (fun _ => .inl rfl) (.inr ⟨_, vs.toArray, _, hk, rfl, rfl, rfl, by rw [List.size_toArray, lenV]; exact hl, by simpa using rv⟩) (fun b u z => by have z' : (none : Option HO) = some u := z; cases z') (fun b z => absurd rfl z) fun z => absurd rfl z
  | none =>
    refine core (fun b => if b = a then some (.frz { cls := .type "list", data := .seq vs.toArray } (.lst (ns.map V.int))) else none) (fun b => ?_) (.inl (.inr ⟨{ cls := .type "list", data := .seq vs.toArray }, if_pos rfl⟩)) (fun b u z => ?_) (fun b z => ?_) fun _ => hk
    · by_cases hb : b = a
      · exact .inr ⟨_, _, if_pos hb⟩
      · exact .inl (if_neg hb)
    · by_cases hb : b = a
      · have z' := (if_pos hb).symm.trans z
        cases z'
        subst hb
        exact ⟨ha, by rw [List.length_map]; exact hl, vs, _, rv, ha⟩
      · have z' := (if_neg hb).symm.trans z
        cases z'
    · by_cases hb : b = a
      · exact hb
      · exact absurd (if_neg hb) z
end L2
namespace L2
open PySem PySem.Spec PyProof.Rows
theorem walk_of {l : PySem.W.OpenLaw} {n k : Nat} {q : Program} {loose : List Str} {XP : (Str → Option Value) → Heap → Prop} {YP : World → Heap → Prop} {d : DefRec} {K : Params → PySem.W.Frag} {CX : World → CXT} {sp : World → Sp} {x : Str}
    (hn : l.most = some n) (hn2 : n ≤ sizeLine) (hdf : d.params.defaults = []) (hr : Room k callerA)
    (hY : ∀ (w : World) (h : Heap), YP w h → (K w.params).In h)
    (F : ∀ (w : World) (mg : Str → Option Value) (fa : Addr) (h : Heap), (K w.params).In h → h.Ns mainGlobals mg → mg d.name = some (.ref fa) →
      ∃ fd : FuncData, (∀ (s : Shared) (u : Value), BindsTo s fd ⟨[u], []⟩ [(x, u)]) ∧
        ∀ base : Heap, (K w.params).In base → base.Ns mainGlobals mg → FnOk l.prog w (K w.params) mg base (CX w) k fa fd [x] (sp w))
    (hsp : ∀ (w : World) (H : Hp) (a : Addr) (ns : List Int), ns.length ≤ n → Only H → SqL (K w.params) H a (ns.map V.int) → sp w [.ref a] H (fun v _ => v = .bl true) fun _ _ _ => False)
    (hCX : ∀ (w : World) (H : Hp) (s : Shared) (e : Value) (s' : Shared), CX w [] H s (fun _ _ _ => False) e s' → False) :
    PySem.W.WalkO q loose XP YP l.row.toRowW d [] (fun f vs => PySem.call f vs) := by
  refine Att.attach_call hn hdf fun w s₀ s₁ mg mb fa o pm cd doc a vs ns G Y ho hd hcd hmg hobj hints hlen hg => ?_
  have KX := hY w _ Y
  obtain ⟨fd, hb, hF⟩ := F w mg fa _ KX G.T.g hmg
  exact law_call KX G.T.g G.T.b G.T.builtins G.T.nolimit hg hobj hints (Nat.le_trans hlen hn2) hr hF hb (fun H hO hS => hsp w H a ns hlen hO hS) fun H e s' => hCX w H s₁ e s'
end L2
namespace L2
open PySem PySem.Spec PyProof.Rows
def defArgs (s : Stmt) : Arguments := match s with
  | .FunctionDef _ a _ _ _ _ _ _ _ _ => a
  | _ => { posonlyargs := [], args := [], vararg := none, kwonlyargs := [], kw_defaults := [], kwarg := none, defaults := [] }
def defBody (s : Stmt) : List Stmt := match s with
  | .FunctionDef _ _ b _ _ _ _ _ _ _ => b
  | _ => []
def defScope (s : Stmt) : Scope := match s with
  | .FunctionDef _ _ _ _ _ _ sc _ _ _ => sc
  | _ => { kind := .function, names := [], isGenerator := false, isCoroutine := false }
abbrev CX0 : CXT := fun _ _ _ _ _ _ => False
abbrev E0 : XK := fun _ _ _ => False
theorem pass0 {X : Cx} : Passes CX0 X E0 := fun _ _ _ _ _ _ _ h => h.elim
structure Fun (K : PySem.W.Frag) (x qual : Str) (st : Stmt) (f : Addr) (fd : FuncData) : Prop where
  ex : ∃ (oc : Value) (od : Option Addr) (kV doc pm : Value) (an : Option Addr) (cdv ct : Value) (osl : Array (Option Value)),
    fd = PySem.W.fnOf x qual (defArgs st) (defBody st) (defScope st) .none kV doc pm an cdv ct ∧ K.lookup f = some ⟨oc, od, .func fd, osl⟩ ∧ PySem.W.codeIn K cdv qual = true
  kp : PySem.W.keepIn K (.ref f) = true
section
variable {P : Program} {w : World} {K : PySem.W.Frag} {mg : Str → Option Value} {base : Heap}
theorem Fun.ok {x qual : Str} {st : Stmt} {f : Addr} {fd : FuncData} {N ps : List Str} {k : Nat} {sp : Sp} (F : Fun K x qual st f fd) (S : FnScope N ps (defScope st)) (len : ∀ vs H Q E, sp vs H Q E → vs.length = ps.length)
    (hbody : ∀ (cdv : Value) (A : Around) (outer : List Env) (s : Shared) (H : Hp) (vs : List V) (Q : VK) (E : XK), Room k (A.deeper (envOfC qual (defScope st) s.heap.objs.size f cdv)) → sp vs H Q E →
      ∃ t, PSs (cxOf CX0 P w K mg base N qual (defScope st) f cdv A outer s H E).nox (defBody st) t ∧ t { nx := fun _ H' => Q .non H', rt := Q } (start N vs) H) : FnOk P w K mg base CX0 (k + 1) f fd ps sp := by
  obtain ⟨oc, od, kV, doc, pm, an, cdv, ct, osl, rfl, lk, hcd⟩ := F.ex
  refine fn_of lk hcd S len fun A outer s H vs Q E hr hsp => ?_
  obtain ⟨t, h, q⟩ := hbody cdv A outer s H vs Q E hr hsp
  exact ⟨t, h.nox, q⟩
theorem Fun.binds {x qual : Str} {st : Stmt} {f : Addr} {fd : FuncData} {ps : List Str} (F : Fun K x qual st f fd)
    (h : ∀ (kV doc pm : Value) (an : Option Addr) (cdv ct : Value) (us : List Value), us.length = ps.length → bindArgs (PySem.W.fnOf x qual (defArgs st) (defBody st) (defScope st) .none kV doc pm an cdv ct) ⟨us, []⟩ = pure (ps.zip us)) : Binds K fd ps [] := by
  obtain ⟨oc, od, kV, doc, pm, an, cdv, ct, osl, rfl, lk, hcd⟩ := F.ex
  exact .all (h kV doc pm an cdv ct)
theorem fun_mk {x qual : Str} {st : Stmt} {f : Addr} {oc : Value} {od an : Option Addr} {osl : Array (Option Value)} {kV doc pm cdv ct : Value} (l : K.lookup f = some ⟨oc, od, .func (PySem.W.fnOf x qual (defArgs st) (defBody st) (defScope st) .none kV doc pm an cdv ct), osl⟩)
    (c : PySem.W.codeIn K cdv qual = true) (k : PySem.W.keepIn K (.ref f) = true) : Fun K x qual st f (PySem.W.fnOf x qual (defArgs st) (defBody st) (defScope st) .none kV doc pm an cdv ct) := ⟨⟨oc, od, kV, doc, pm, an, cdv, ct, osl, rfl, l, c⟩, k⟩
end
theorem small1000 {n : Nat} (h : n ≤ 1000) : n < sizeLine := Nat.lt_of_le_of_lt h (by decide)
section
variable {X : Cx}
theorem pv (i : Nat) {x : Str} {pos : Pos} (hN : X.N[i]? = some x := by rfl) (hv : Vis X.env.scope x := by first | exact Or.inl rfl | exact Or.inr (Or.inl rfl) | exact Or.inr (Or.inr rfl)) (hd : (x == ("__debug__" : Str)) = false := by decide)
    (hcd : (x == ("__classdict__" : Str)) = false := by decide) : PE X (.Name x pos) (tVar i) := pe_var hN hv hd hcd
end
theorem ite2 {c A B : Prop} [Decidable c] (h1 : c → A) (h2 : ¬ c → B) : if c then A else B := by
  by_cases h : c
  · rw [if_pos h]
    exact h1 h
  · rw [if_neg h]
    exact h2 h
def Same (H H' : Hp) : Prop := ∀ b o, H b = some o → H' b = some o
theorem Same.refl (H : Hp) : Same H H := fun _ _ h => h
theorem Same.trans {H H1 H2 : Hp} (a : Same H H1) (b : Same H1 H2) : Same H H2 := fun c o h => b c o (a c o h)
theorem Same.free {H H' : Hp} (e : Same H H') {l : Addr} (h : H' l = Option.none) : H l = Option.none := by
  cases q : H l with
  | none => rfl
  | some o =>
    rw [e l o q] at h
    cases h
theorem Same.seq {K : PySem.W.Frag} {H H' : Hp} {a : Addr} {xs : List V} (e : Same H H') (h : SqL K H a xs) : SqL K H' a xs := by
  rcases h with (h | ⟨o, h⟩) | h
  · exact .inl (.inl (e _ _ h))
  · exact .inl (.inr ⟨o, e _ _ h⟩)
  · exact .inr h
end L2
namespace L2
open PySem PySem.Spec PyProof.Rows
section
variable {X : Cx}
end
end L2
namespace L2
open PySem PySem.Spec PyProof.Rows
section
variable {κ : Type} [DecidableEq κ]
end
end L2
set_option Elab.async false
set_option linter.all false
set_option maxRecDepth 100000
namespace L2
open PySem PySem.Spec PyProof.Rows
section
variable {σ : St} {H : Hp} {Q : VK} {D : Ends}
theorem w_var {i : Nat} : tVar i σ H Q = ∃ v, σ[i]? = some (some v) ∧ Q v H := rfl
theorem w_C {v : V} : tC v σ H Q = Q v H := rfl
theorem w_op {r : R2} {ta tb : TE} : tOp r ta tb σ H Q = ta σ H fun x H1 => tb σ H1 fun y H2 => r x y H2 Q := rfl
theorem w_un {r : V → Hp → VK → Prop} {ta : TE} : tUn r ta σ H Q = ta σ H fun x H1 => r x H1 Q := rfl
theorem w_rI {C : Int → Int → Prop} {g : Int → Int → V} {i j : Int} : rI C g (.int i) (.int j) H Q = (C i j ∧ Q (g i j) H) :=
  propext ⟨fun ⟨a, b, e1, e2, c, q⟩ => by cases e1; cases e2; exact ⟨c, q⟩, fun ⟨c, q⟩ => ⟨i, j, rfl, rfl, c, q⟩⟩
theorem w_rI0 {g : Int → Int → V} {i j : Int} : rI0 g (.int i) (.int j) H Q = Q (g i j) H :=
  propext ⟨fun ⟨a, b, e1, e2, q⟩ => by cases e1; cases e2; exact q, fun q => ⟨i, j, rfl, rfl, q⟩⟩
theorem w_rU {g : Int → V} {i : Int} : rU g (.int i) H Q = Q (g i) H :=
  propext ⟨fun ⟨a, e1, q⟩ => by cases e1; exact q, fun q => ⟨i, rfl, q⟩⟩
theorem w_eqI {i j : Int} : rEq (.int i) (.int j) H Q = Q (.bl (decide (i = j))) H :=
  propext (by
    have e : decide (V.int i = V.int j) = decide (i = j) := by by_cases h : i = j <;> simp [h]
    unfold rEq; rw [e]; exact ⟨fun h => h.2, fun h => ⟨rfl, h⟩⟩)
theorem w_neI {i j : Int} : rNe (.int i) (.int j) H Q = Q (.bl (!decide (i = j))) H :=
  propext (by
    have e : decide (V.int i = V.int j) = decide (i = j) := by by_cases h : i = j <;> simp [h]
    unfold rNe; rw [e]; exact ⟨fun h => h.2, fun h => ⟨rfl, h⟩⟩)
theorem w_seq {t u : TS} : tSeq t u D σ H = t { D with nx := u D } σ H := rfl
theorem w_next : tNext D σ H = D.nx σ H := rfl
theorem w_break : tBreak D σ H = D.bk σ H := rfl
theorem w_cont : tCont D σ H = D.ct σ H := rfl
theorem w_ifS {c : TT} {t u : TS} : tIfS c t u D σ H = c σ H fun b H1 => if b = true then t D σ H1 else u D σ H1 := rfl
theorem w_ret {te : TE} : tRet te D σ H = te σ H D.rt := rfl
theorem w_retN : tRetN D σ H = D.rt .non H := rfl
theorem w_drop {te : TE} : tDrop te D σ H = te σ H fun _ H1 => D.nx σ H1 := rfl
theorem w_asg {te : TE} {g : TG} : tAsg te g D σ H = te σ H fun x H1 => g x σ H1 D.nx := rfl
theorem w_gName {i : Nat} {v : V} {R : St → Hp → Prop} : gName i v σ H R = R (σ.set i (some v)) H := rfl
theorem w_gSub {to ti : TE} {t : TSet} {v : V} {R : St → Hp → Prop} : gSub to ti t v σ H R = to σ H fun o H1 => ti σ H1 fun i H2 => t o i v H2 fun H3 => R σ H3 := rfl
theorem w_test {t : TE} {R : Bool → Hp → Prop} : tTest t σ H R = t σ H fun x H' => ∃ k, x = .bl k ∧ R k H' := rfl
theorem w_B {t : TE} {R : Bool → Hp → Prop} : tB t σ H R = t σ H fun x H' => ∃ k, x = .bl k ∧ R k H' := rfl
theorem w_and {t u : TT} {R : Bool → Hp → Prop} : tAnd t u σ H R = t σ H fun c H1 => if c = true then u σ H1 R else R false H1 := rfl
theorem w_or {t u : TT} {R : Bool → Hp → Prop} : tOr t u σ H R = t σ H fun c H1 => if c = true then R true H1 else u σ H1 R := rfl
theorem w_not {t : TT} {R : Bool → Hp → Prop} : tNot t σ H R = t σ H fun c H1 => R (!c) H1 := rfl
theorem w_andV {ta tb : TE} : tAndV ta tb σ H Q = ta σ H fun x H1 => ∃ c, x = .bl c ∧ if c = true then tb σ H1 Q else Q (.bl false) H1 := rfl
theorem w_orV {ta tb : TE} : tOrV ta tb σ H Q = ta σ H fun x H1 => ∃ c, x = .bl c ∧ if c = true then Q (.bl true) H1 else tb σ H1 Q := rfl
theorem w_notV {ta : TE} : tNotV ta σ H Q = ta σ H fun x H1 => ∃ c, x = .bl c ∧ Q (.bl (!c)) H1 := rfl
theorem w_if {t : TT} {ta tb : TE} : tIf t ta tb σ H Q = t σ H fun c H1 => if c = true then ta σ H1 Q else tb σ H1 Q := rfl
theorem w_call {sp : Sp} {dvs : List V} {E : XK} {t : TA} : tCall sp dvs E t σ H Q = t σ H fun vs H1 => sp (vs ++ dvs) H1 Q E := rfl
theorem w_nil {R : List V → Hp → Prop} : tNil σ H R = R [] H := rfl
theorem w_cons {ta : TE} {tr : TA} {R : List V → Hp → Prop} : tCons ta tr σ H R = ta σ H fun x H1 => tr σ H1 fun xs H2 => R (x :: xs) H2 := rfl
theorem w_CB {r : List V → Hp → VK → Prop} {t : TA} : tCB r t σ H Q = t σ H fun vs H1 => r vs H1 Q := rfl
theorem w_lst {t : TA} : tLst t σ H Q = t σ H fun xs H1 => xs.length ≤ sizeLine ∧ ∀ p, H1 p = none → Q (.ref p) (upd H1 p (.lst xs)) := rfl
theorem w_tup {t : TA} : tTup t σ H Q = t σ H fun xs H1 => xs.length ≤ sizeLine ∧ ∀ p, H1 p = none → Q (.ref p) (upd H1 p (.tup xs)) := rfl
theorem w_isN {ta : TE} : tIsN ta σ H Q = ta σ H fun x H1 => Q (.bl (decide (x = .non))) H1 := rfl
theorem w_notN {ta : TE} : tNotN ta σ H Q = ta σ H fun x H1 => Q (.bl (!decide (x = .non))) H1 := rfl
theorem w_chain {r r' : R2} {ta tb tc : TE} : tChain r r' ta tb tc σ H Q = (ta σ H fun x H1 => tb σ H1 fun y H2 => r x y H2 fun z H3 => ∃ k, z = .bl k ∧
  if k = true then tc σ H3 fun w H4 => r' y w H4 Q else Q (.bl false) H3) := by first | rfl | (unfold tChain; rfl)
end
section
variable {X : Cx} {st : Stmt} {rest : List Stmt} {t u : TS}
end
structure Cal (P : Program) (w : World) (K : PySem.W.Frag) (mg : Str → Option Value) (base : Heap) (k : Nat) (x : Str) (ps : List Str) (sp : Sp) : Prop where
  ex : ∃ (f : Addr) (fd : FuncData), FnOk P w K mg base CX0 k f fd ps sp ∧ mg x = some (.ref f) ∧ PySem.W.keepIn K (.ref f) = true ∧ Binds K fd ps []
theorem Cal.mono {P : Program} {w : World} {K : PySem.W.Frag} {mg : Str → Option Value} {base : Heap} {j k : Nat} {x : Str} {ps : List Str} {sp : Sp} (C : Cal P w K mg base j x ps sp) (h : j ≤ k) : Cal P w K mg base k x ps sp := by
  obtain ⟨f, fd, a, b, c, d⟩ := C.ex
  exact ⟨f, fd, a.mono h, b, c, d⟩
theorem Cal.imp {P : Program} {w : World} {K : PySem.W.Frag} {mg : Str → Option Value} {base : Heap} {k : Nat} {x : Str} {ps : List Str} {sp sp' : Sp} (C : Cal P w K mg base k x ps sp) (h : ∀ vs H Q E, sp' vs H Q E → sp vs H Q E) : Cal P w K mg base k x ps sp' := by
  obtain ⟨f, fd, a, b, c, d⟩ := C.ex
  exact ⟨f, fd, a.imp h, b, c, d⟩
section
variable {X : Cx} {k : Nat} {x : Str} {ps : List Str} {sp : Sp} {e : Expr} {es : List Expr} {t : TA} {p pos : Pos}
theorem pe_cal (C : Cal X.prog X.w X.K X.mg X.base k x ps sp) (hr : Room k X.A) (hg : Gl X x) (ha : PA X (e :: es) t) (hd : (x == ("__debug__" : Str)) = false := by decide)
    (he : starEach (e :: es) X.env = (false, eval e X.env) :: starEach es X.env := by rfl) (hpl : (backTo pos (starEach es X.env)).any (·.1) = false := by rfl) : PE X (.Call (.Name x p) (e :: es) [] pos) (tCall sp [] E0 t) := by
  obtain ⟨f, fd, a, b, c, d⟩ := C.ex
  exact pe_call a hr hg b c d .nil pass0 ha hd he hpl
end
theorem bits_le {i : Int} {n : Nat} (h : i.natAbs < 2 ^ n) : Builtin.Int.intBits i ≤ n := by
  unfold Builtin.Int.intBits
  split
  · exact Nat.zero_le _
  · rename_i h0
    have hp : i.natAbs ≠ 0 := by
      intro z
      exact h0 (by simpa using z)
    have : i.natAbs.log2 < n := (Nat.log2_lt hp).mpr h
    omega
def CShl (i j : Int) : Prop := 0 ≤ j ∧ j ≤ 1000000 ∧ Builtin.Int.intBits i ≤ 1000000
def CDivB (i j : Int) : Prop := 0 < j ∧ j.natAbs.log2 < 9000
section
variable {X : Cx}
theorem op_mulB : OpR X (binaryOp .Mult) (rI IntMulOk fun i j => .int (i * j)) := opI fun _ _ _ _ _ _ _ hc q => mul_int q hc
theorem op_fdivB : OpR X (binaryOp .FloorDiv) (rI CDivB fun i j => .int (i / j)) := opI fun i j _ _ _ _ _ hc q => by
  have e : i / j = i.fdiv j := (Int.fdiv_eq_ediv_of_nonneg i (Int.le_of_lt hc.1)).symm
  rw [e] at q
  exact floordiv_int (by have := hc.1; omega) q (.inl (PyProof.noPylong_of_log2 hc.2))
def rIsI (K : PySem.W.Frag) : List V → Hp → VK → Prop := fun xs H Q => ∃ x T t b, xs = [x, .ty T] ∧ TyOf K H x t ∧ PySem.W.kitOne K t (.type T) = some b ∧ Q (.bl b) H
theorem call_isI : CallR X (.builtin "isinstance") (rIsI X.K) := by
  intro pins s σ H xs us Q I r h
  obtain ⟨x, T, t, b, rfl, ty, e, q⟩ := h
  obtain ⟨u1, u2, rfl, r1, r2⟩ := Vals.two r
  cases r2
  exact isinst_ok I r1 ty e fun tk => ⟨.bl b, H, I.tok _, rfl, q⟩
end
theorem mul_l {i j : Int} (h1 : -(2 ^ 64) < i) (h2 : i < 2 ^ 64) : IntMulOk i j := .of_left (intBits_le_64 h1 h2)
theorem mul_r {i j : Int} (h1 : -(2 ^ 64) < j) (h2 : j < 2 ^ 64) : IntMulOk i j := .of_right (intBits_le_64 h1 h2)
theorem kit_same {K : PySem.W.Frag} (T : String) : PySem.W.kitOne K (.type T) (.type T) = some true := by unfold PySem.W.kitOne; rw [if_pos (by simp)]
theorem kit_int_bool {K : PySem.W.Frag} : PySem.W.kitOne K (.type "int") (.type "bool") = some false := by first | rfl | decide +kernel | (unfold PySem.W.kitOne PySem.W.kitCls; decide +kernel)
theorem kit_bool_int {K : PySem.W.Frag} : PySem.W.kitOne K (.type "bool") (.type "int") = some true := by first | rfl | decide +kernel
theorem kit_non_int {K : PySem.W.Frag} : PySem.W.kitOne K (.type "NoneType") (.type "int") = some false := by first | rfl | decide +kernel
theorem kit_str_int {K : PySem.W.Frag} : PySem.W.kitOne K (.type "str") (.type "int") = some false := by first | rfl | decide +kernel
theorem kit_tuple_int {K : PySem.W.Frag} : PySem.W.kitOne K (.type "tuple") (.type "int") = some false := by first | rfl | decide +kernel
theorem kit_dict_int {K : PySem.W.Frag} : PySem.W.kitOne K (.type "dict") (.type "int") = some false := by first | rfl | decide +kernel
end L2
set_option Elab.async false
set_option linter.all false
set_option maxRecDepth 100000
namespace L2
open PySem PySem.Spec PyProof.Rows
theorem bo_len : bootBuiltins "len" = some (.builtin "len") := by decide +kernel
theorem bo_abs : bootBuiltins "abs" = some (.builtin "abs") := by decide +kernel
theorem bo_min : bootBuiltins "min" = some (.builtin "min") := by decide +kernel
theorem bo_isinstance : bootBuiltins "isinstance" = some (.builtin "isinstance") := by decide +kernel
theorem bo_int : bootBuiltins "int" = some (.type "int") := by decide +kernel
theorem bo_bool : bootBuiltins "bool" = some (.type "bool") := by decide +kernel
theorem bo_tuple : bootBuiltins "tuple" = some (.type "tuple") := by decide +kernel
theorem bo_dict : bootBuiltins "dict" = some (.type "dict") := by decide +kernel
def CPowB (i j : Int) : Prop := 0 ≤ j ∧ j ≤ 1000000 ∧ -(2 ^ 64) < i ∧ i < 2 ^ 64
section
variable {X : Cx}
theorem op_powB : OpR X (binaryOp .Pow) (rI CPowB fun i j => .int (i ^ j.toNat)) := opI fun i j _ _ _ _ _ hc q => pow_int_small hc.1 hc.2.1 (by have h1 := hc.2.2.1; have h2 := hc.2.2.2; omega) q
end
theorem w_shl1 {j : Int} : CShl 1 j = (0 ≤ j ∧ j ≤ 1000000) := propext ⟨fun h => ⟨h.1, h.2.1⟩, fun h => ⟨h.1, h.2, Nat.le_trans (bits_le (n := 1) (by decide)) (by decide)⟩⟩
theorem divB {i j : Int} (h : 0 < j) (h2 : j < 2 ^ 64) : CDivB i j := ⟨h, by
  have e : j.natAbs < 2 ^ 64 := by omega
  have e2 : j.natAbs ≠ 0 := by omega
  have := (Nat.log2_lt e2).mpr e
  omega⟩
section
variable {P : Program} {w : World} {K : PySem.W.Frag} {mg : Str → Option Value} {base : Heap}
theorem mkCal {x qual : Str} {st : Stmt} {N ps : List Str} {k : Nat} {sp : Sp} (T : ∃ (f : Addr) (fd : FuncData), Fun K x qual st f fd ∧ mg x = some (.ref f) ∧ Binds K fd ps []) (S : FnScope N ps (defScope st)) (len : ∀ vs H Q E, sp vs H Q E → vs.length = ps.length)
    (hbody : ∀ (f : Addr) (cdv : Value) (A : Around) (outer : List Env) (s : Shared) (H : Hp) (vs : List V) (Q : VK) (E : XK), Room k (A.deeper (envOfC qual (defScope st) s.heap.objs.size f cdv)) → sp vs H Q E →
      ∃ t, PSs (cxOf CX0 P w K mg base N qual (defScope st) f cdv A outer s H E).nox (defBody st) t ∧ t { nx := fun _ H' => Q .non H', rt := Q } (start N vs) H) : Cal P w K mg base (k + 1) x ps sp := by
  obtain ⟨f, fd, F, m, b⟩ := T
  exact ⟨f, fd, F.ok S len fun cdv A outer s H vs Q E hr h => hbody f cdv A outer s H vs Q E hr h, m, F.kp, b⟩
end
def Chg (p : Addr) (H H' : Hp) : Prop := ∀ b o, b ≠ p → H b = some o → H' b = some o
theorem Chg.refl {p : Addr} {H : Hp} : Chg p H H := fun _ _ _ h => h
theorem Chg.trans {p : Addr} {H H1 H2 : Hp} (a : Chg p H H1) (b : Chg p H1 H2) : Chg p H H2 := fun c o n h => b c o n (a c o n h)
theorem Same.chg {p : Addr} {H H' : Hp} (h : Same H H') : Chg p H H' := fun b o _ q => h b o q
theorem Chg.upd {p : Addr} {H : Hp} (o : HO) : Chg p H (upd H p o) := fun b u n q => by rw [upd_ne n]; exact q
theorem same_new {H : Hp} {p : Addr} (h : H p = none) (o : HO) : Same H (upd H p o) := fun b u q => by rw [upd_ne (ne_of_none q h)]; exact q
theorem Chg.same {p : Addr} {H H' : Hp} (c : Chg p H H') (h : H p = none) : Same H H' := fun b o q => c b o (ne_of_none q h) q
def Scr (K : PySem.W.Frag) (H : Hp) (a : Addr) (ns : List Int) : Prop :=
  (∃ o, H a = some (.frz o (.lst (ns.map V.int)))) ∨ (∃ (o : Obj) (its : Array Value) (n : Nat), K.lookup a = some o ∧ o.cls = .type "list" ∧ o.dict = none ∧ o.data = .seq its n ∧ its.size ≤ sizeLine ∧ Vals (ns.map V.int) its.toList)
section
variable {K : PySem.W.Frag} {H H' : Hp} {a p : Addr} {ns : List Int}
theorem Scr.sq (h : Scr K H a ns) : SqL K H a (ns.map V.int) := by
  rcases h with h | h
  · exact .inl (.inr h)
  · exact .inr h
theorem scr_of (hO : Only H) (hS : SqL K H a (ns.map V.int)) : Scr K H a ns := by
  rcases hS with (h | h) | h
  · rcases hO a with z | ⟨o, xs, z⟩
    · rw [z] at h; cases h
    · rw [z] at h; cases h
  · exact .inl h
  · exact .inr h
theorem Scr.same (h : Scr K H a ns) (s : Same H H') : Scr K H' a ns := by
  rcases h with ⟨o, h⟩ | h
  · exact .inl ⟨o, s _ _ h⟩
  · exact .inr h
theorem Scr.chg {xs : List V} (h : Scr K H a ns) (hp : H p = some (.lst xs)) (s : Chg p H H') : Scr K H' a ns := by
  rcases h with ⟨o, h⟩ | h
  · exact .inl ⟨o, s _ _ (ne_of h hp (by intro z; cases z)) h⟩
  · exact .inr h
end
def spLaw (K : PySem.W.Frag) : Sp := fun vs H Q _ => ∃ (a : Addr) (ns : List Int), vs = [.ref a] ∧ Scr K H a ns ∧ ns.length ≤ 63 ∧ ∀ H', Q (.bl true) H'
theorem atI_int {ns : List Int} {i : Int} (h0 : 0 ≤ i) (h1 : i < (ns.length : Int)) : ∃ v : Int, atI (ns.map V.int) i = some (.int v) ∧ ns[i.toNat]? = some v := by
  have hk : i.toNat < ns.length := by omega
  have e : i = ((i.toNat : Nat) : Int) := by omega
  have q : atI (ns.map V.int) ((i.toNat : Nat) : Int) = some (.int ns[i.toNat]) := atI_nat (by rw [List.getElem?_map, List.getElem?_eq_getElem hk] <;> rfl)
  rw [← e] at q
  exact ⟨ns[i.toNat], q, List.getElem?_eq_getElem hk⟩
def Feed (H : Hp) (p : Addr) (c : Int) : Prop := ∃ g m st : Int, H p = some (.lst [.int g, .int m, .int st]) ∧ 0 ≤ g ∧ 0 ≤ m ∧ m < 2147483423 ∧ 0 ≤ st ∧ st ≤ c
theorem Feed.mono {H : Hp} {p : Addr} {c d : Int} (h : Feed H p c) (l : c ≤ d) : Feed H p d := by
  obtain ⟨g, m, st, a, b, c, d, e, f⟩ := h
  exact ⟨g, m, st, a, b, c, d, e, by omega⟩
theorem Feed.same {H H' : Hp} {p : Addr} {c : Int} (h : Feed H p c) (s : Same H H') : Feed H' p c := by
  obtain ⟨g, m, st, a, r⟩ := h
  exact ⟨g, m, st, s _ _ a, r⟩
theorem Feed.lst {H : Hp} {p : Addr} {c : Int} (h : Feed H p c) : ∃ xs, H p = some (.lst xs) := by
  obtain ⟨g, m, st, a, r⟩ := h
  exact ⟨_, a⟩
theorem Feed.pos {H : Hp} {p : Addr} {c : Int} (h : Feed H p c) : 0 ≤ c := by
  obtain ⟨g, m, st, a, b, c, d, e, f⟩ := h
  omega
def lim : Nat → Int
  | 0 => 11
  | n + 1 => 1000000 * (lim n - 1)
def rIxM : R2 := fun x y H Q => ∃ p xs i v, x = .ref p ∧ y = .int i ∧ H p = some (.lst xs) ∧ atI xs i = some v ∧ Q v H
def rIxU : R2 := fun x y H Q => ∃ p xs i v, x = .ref p ∧ y = .int i ∧ H p = some (.tup xs) ∧ atI xs i = some v ∧ Q v H
section
variable {X : Cx}
theorem IxR.mono {r r' : R2} (h : IxR X r) (m : ∀ x y H Q, r' x y H Q → r x y H Q) : IxR X r' := fun va sl pins s σ H x y v u Q I rx ry q hs => h va sl pins s σ H x y v u Q I rx ry (m _ _ _ _ q) hs
theorem ix_M : IxR X rIxM := ix_list.mono fun x y H Q ⟨p, xs, i, v, e1, e2, h, a, q⟩ => ⟨p, xs, i, v, e1, e2, SqL.of h, a, q⟩
theorem CallR.mono {f : Value} {r r' : List V → Hp → VK → Prop} (h : CallR X f r) (m : ∀ xs H Q, r' xs H Q → r xs H Q) : CallR X f r' := fun pins s σ H xs us Q I rx q => h pins s σ H xs us Q I rx (m _ _ _ q)
theorem call_lenM : CallR X (.builtin "len") (fun xs H Q => ∃ p ys, xs = [.ref p] ∧ H p = some (.lst ys) ∧ Q (.int ys.length) H) := call_len_seq.mono fun xs H Q ⟨p, ys, e, h, q⟩ => ⟨p, ys, e, .inl (SqL.of h), q⟩
theorem call_lenS : CallR X (.builtin "len") (fun xs H Q => ∃ p ys, xs = [.ref p] ∧ SqL X.K H p ys ∧ Q (.int ys.length) H) := call_len_seq.mono fun xs H Q ⟨p, ys, e, h, q⟩ => ⟨p, ys, e, .inl h, q⟩
end
section
variable {H : Hp} {Q : VK}
theorem w_ixM {p : Addr} {i : Int} : rIxM (.ref p) (.int i) H Q = ∃ xs, H p = some (.lst xs) ∧ ∃ v, atI xs i = some v ∧ Q v H :=
  propext ⟨fun ⟨p', xs, i', v, e1, e2, h, a, q⟩ => by cases e1; cases e2; exact ⟨xs, h, v, a, q⟩, fun ⟨xs, h, v, a, q⟩ => ⟨p, xs, i, v, rfl, rfl, h, a, q⟩⟩
theorem w_ixU {p : Addr} {i : Int} : rIxU (.ref p) (.int i) H Q = ∃ xs, H p = some (.tup xs) ∧ ∃ v, atI xs i = some v ∧ Q v H :=
  propext ⟨fun ⟨p', xs, i', v, e1, e2, h, a, q⟩ => by cases e1; cases e2; exact ⟨xs, h, v, a, q⟩, fun ⟨xs, h, v, a, q⟩ => ⟨p, xs, i, v, rfl, rfl, h, a, q⟩⟩
theorem w_ixL {K : PySem.W.Frag} {p : Addr} {i : Int} : rIxL K (.ref p) (.int i) H Q = ∃ xs, SqL K H p xs ∧ ∃ v, atI xs i = some v ∧ Q v H :=
  propext ⟨fun ⟨p', xs, i', v, e1, e2, h, a, q⟩ => by cases e1; cases e2; exact ⟨xs, h, v, a, q⟩, fun ⟨xs, h, v, a, q⟩ => ⟨p, xs, i, v, rfl, rfl, h, a, q⟩⟩
theorem w_setL {p : Addr} {k : Int} {v : V} {R : Hp → Prop} : rSetL (.ref p) (.int k) v H R = ∃ xs, H p = some (.lst xs) ∧ ∃ j, ixN xs.length k = some j ∧ R (upd H p (.lst (xs.set j v))) :=
  propext ⟨fun ⟨p', xs, k', j, e1, e2, h, a, q⟩ => by cases e1; cases e2; exact ⟨xs, h, j, a, q⟩, fun ⟨xs, h, j, a, q⟩ => ⟨p, xs, k, j, rfl, rfl, h, a, q⟩⟩
end
theorem at_0 {α : Type} {a : α} {l : List α} : atI (a :: l) 0 = some a := atI_nat (j := 0) rfl
theorem at_1 {α : Type} {a b : α} {l : List α} : atI (a :: b :: l) 1 = some b := atI_nat (j := 1) rfl
theorem at_2 {α : Type} {a b c : α} {l : List α} : atI (a :: b :: c :: l) 2 = some c := atI_nat (j := 2) rfl
theorem at_3 {α : Type} {a b c d : α} {l : List α} : atI (a :: b :: c :: d :: l) 3 = some d := atI_nat (j := 3) rfl
theorem ixN_0 {n : Nat} : ixN (n + 1) 0 = some 0 := by unfold ixN; rw [if_pos (Int.le_refl 0), if_pos (by omega)]; rfl
theorem ixN_1 {n : Nat} : ixN (n + 1 + 1) 1 = some 1 := by unfold ixN; rw [if_pos (by decide), if_pos (by omega)]; rfl
theorem ixN_2 {n : Nat} : ixN (n + 1 + 1 + 1) 2 = some 2 := by unfold ixN; rw [if_pos (by decide), if_pos (by omega)]; rfl
section
variable {CX : CXT} {P : Program} {w : World} {K : PySem.W.Frag} {mg : Str → Option Value} {base : Heap} {N : List Str} {qual : Str} {scope : Scope} {f : Addr} {cd : Value} {A : Around} {outer : List Env} {s : Shared} {H : Hp} {E : XK}
theorem w_cxK : (cxOf CX P w K mg base N qual scope f cd A outer s H E).K = K := rfl
end
theorem le_size {n : Nat} (h : n ≤ 1000) : n ≤ sizeLine := Nat.le_of_lt (small1000 h)
theorem sl_1 : (0 + 1 ≤ sizeLine) = True := eq_true (le_size (by decide))
theorem sl_2 : (0 + 1 + 1 ≤ sizeLine) = True := eq_true (le_size (by decide))
theorem sl_3 : (0 + 1 + 1 + 1 ≤ sizeLine) = True := eq_true (le_size (by decide))
theorem sl_4 : (0 + 1 + 1 + 1 + 1 ≤ sizeLine) = True := eq_true (le_size (by decide))
theorem sl_5 : (0 + 1 + 1 + 1 + 1 + 1 ≤ sizeLine) = True := eq_true (le_size (by decide))
theorem sl_6 : (0 + 1 + 1 + 1 + 1 + 1 + 1 ≤ sizeLine) = True := eq_true (le_size (by decide))
theorem sl_7 : (0 + 1 + 1 + 1 + 1 + 1 + 1 + 1 ≤ sizeLine) = True := eq_true (le_size (by decide))
theorem sl_8 : (0 + 1 + 1 + 1 + 1 + 1 + 1 + 1 + 1 ≤ sizeLine) = True := eq_true (le_size (by decide))
theorem sl_0 : (0 ≤ sizeLine) = True := eq_true (le_size (by decide))
theorem divq {g m : Int} (hg : 0 ≤ g) (hm : 0 < m) : 0 ≤ g / m := Int.ediv_nonneg hg (Int.le_of_lt hm)
theorem modq {g m : Int} (hm : 0 < m) : 0 ≤ g % m ∧ g % m < m := ⟨Int.emod_nonneg _ (by omega), Int.emod_lt_of_pos _ hm⟩
theorem two_pow {n : Nat} : (1 : Int) ≤ 2 ^ n ∧ (2 : Int) ^ (n + 1) = 2 ^ n + 2 ^ n := by
  constructor
  · have := Int.pow_pos (n := 2) (m := n) (by decide)
    omega
  · rw [Int.pow_succ]; omega
theorem lim_ge : ∀ n, 11 ≤ lim n ∧ (0 < n → 10000000 ≤ lim n)
  | 0 => ⟨by decide, fun h => by omega⟩
  | n + 1 => by
    have h := (lim_ge n).1
    have e : lim (n + 1) = 1000000 * (lim n - 1) := rfl
    exact ⟨by omega, fun _ => by omega⟩
def ForR (lo : Int) (n : Nat) (g : TG) (tb : TS) (D : Ends) (σ : St) (H : Hp) : Prop := ∃ W : Nat → Nat → St → Hp → Prop, (∃ m, W 0 m σ H) ∧ ∀ i m σ H, W i m σ H →
  ((Itr lo n).stop i H ∧ D.nx σ H) ∨ ((Itr lo n).go i H ∧ ∃ N : St → Hp → Prop, (∀ σ' H', N σ' H' → ∃ m', m' < m ∧ W (i + 1) m' σ' H') ∧ ∀ x H', (Itr lo n).yld i H x H' → g x σ H' fun σ2 H2 => tb { D with nx := N, ct := N, bk := D.nx } σ2 H2)
def ForL (K : PySem.W.Frag) (a : Addr) (g : TG) (tb : TS) (D : Ends) (σ : St) (H : Hp) : Prop := ∃ W : Nat → Nat → St → Hp → Prop, (∃ m, W 0 m σ H) ∧ ∀ i m σ H, W i m σ H →
  ((Itl K a).stop i H ∧ D.nx σ H) ∨ ((Itl K a).go i H ∧ ∃ N : St → Hp → Prop, (∀ σ' H', N σ' H' → ∃ m', m' < m ∧ W (i + 1) m' σ' H') ∧ ∀ x H', (Itl K a).yld i H x H' → g x σ H' fun σ2 H2 => tb { D with nx := N, ct := N, bk := D.nx } σ2 H2)
def ForT (K : PySem.W.Frag) (a : Addr) (g : TG) (tb : TS) (D : Ends) (σ : St) (H : Hp) : Prop := ∃ W : Nat → Nat → St → Hp → Prop, (∃ m, W 0 m σ H) ∧ ∀ i m σ H, W i m σ H →
  ((Itt K a).stop i H ∧ D.nx σ H) ∨ ((Itt K a).go i H ∧ ∃ N : St → Hp → Prop, (∀ σ' H', N σ' H' → ∃ m', m' < m ∧ W (i + 1) m' σ' H') ∧ ∀ x H', (Itt K a).yld i H x H' → g x σ H' fun σ2 H2 => tb { D with nx := N, ct := N, bk := D.nx } σ2 H2)
section
variable {σ : St} {H : Hp} {D : Ends} {g : TG} {tb : TS} {K : PySem.W.Frag} {a : Addr}
theorem w_for1 {ta : TA} : tFor (iRng1 ta) g tb D σ H = (ta σ H fun vs H1 => ∃ j : Int, vs = [.int j] ∧ -(2 ^ 62) ≤ j ∧ j < 2 ^ 62 ∧ ForR 0 j.toNat g tb D σ H1) := rfl
theorem w_forL {tl : TE} : tFor (iList K tl) g tb D σ H = (tl σ H fun x H1 => ∃ a, x = .ref a ∧ (∃ xs, SqL K H1 a xs) ∧ ForL K a g tb D σ H1) := rfl
theorem w_forT {tl : TE} : tFor (iTup K tl) g tb D σ H = (tl σ H fun x H1 => ∃ a, x = .ref a ∧ (∃ xs, SqT K H1 a xs) ∧ ForT K a g tb D σ H1) := rfl
theorem forR {lo : Int} {n : Nat} (Pv : Nat → St → Hp → Prop) (h0 : Pv 0 σ H)
    (hs : ∀ i σ H (N : St → Hp → Prop), i < n → Pv i σ H → (∀ σ' H', Pv (i + 1) σ' H' → N σ' H') → g (.int (lo + i)) σ H fun σ2 H2 => tb { D with nx := N, ct := N, bk := D.nx } σ2 H2) (hd : ∀ σ H, Pv n σ H → D.nx σ H) : ForR lo n g tb D σ H :=
  for_range Pv h0 (fun i σ H h p => hs i σ H _ h p fun _ _ q => q) hd
theorem forL {xs : List V} (Pv : Nat → St → Hp → Prop) (h0 : Pv 0 σ H) (hl : ∀ i σ H, i ≤ xs.length → Pv i σ H → SqL K H a xs)
    (hs : ∀ i x σ H (N : St → Hp → Prop), xs[i]? = some x → Pv i σ H → (∀ σ' H', Pv (i + 1) σ' H' → N σ' H') → g x σ H fun σ2 H2 => tb { D with nx := N, ct := N, bk := D.nx } σ2 H2) (hd : ∀ σ H, Pv xs.length σ H → D.nx σ H) : ForL K a g tb D σ H := for_list Pv h0 hl (fun i x σ H h p => hs i x σ H _ h p fun _ _ q => q) hd
end
theorem Feed.ne {H : Hp} {p q : Addr} {c : Int} (hF : Feed H p c) (hq : H q = none) : q ≠ p := by
  obtain ⟨xs, h⟩ := hF.lst
  exact (ne_of_none h hq).symm
theorem Feed.new {H : Hp} {p q : Addr} {c : Int} {o : HO} (hF : Feed H p c) (hq : H q = none) : Feed (upd H q o) p c := hF.same (same_new hq _)
theorem r2 {r : Int} (h0 : 0 ≤ r) (h1 : r < 2) : r = 0 ∨ r = 1 := by omega
theorem r3 {r : Int} (h0 : 0 ≤ r) (h1 : r < 3) : r = 0 ∨ r = 1 ∨ r = 2 := by omega
theorem r4 {r : Int} (h0 : 0 ≤ r) (h1 : r < 4) : r = 0 ∨ r = 1 ∨ r = 2 ∨ r = 3 := by omega
section
variable {K : PySem.W.Frag} {H : Hp} {Q : VK}
theorem isI_mk {x : V} {T : String} {t : Value} {b : Bool} (ty : TyOf K H x t) (u : ∀ t', TyOf K H x t' → t' = t) (k : PySem.W.kitOne K t (.type T) = some b) : rIsI K [x, .ty T] H Q = Q (.bl b) H :=
  propext ⟨fun ⟨x', T', t', b', e, ty', k', q⟩ => by
    cases e
    rw [u _ ty', k] at k'
    cases k'
    exact q, fun q => ⟨x, T, t, b, rfl, ty, k, q⟩⟩
theorem kit_non_bool : PySem.W.kitOne K (.type "NoneType") (.type "bool") = some false := by first | rfl | decide +kernel
theorem kit_str_bool : PySem.W.kitOne K (.type "str") (.type "bool") = some false := by first | rfl | decide +kernel
theorem w_isI_ii {i : Int} : rIsI K [.int i, .ty "int"] H Q = Q (.bl true) H := isI_mk (.int i) (fun _ h => by cases h; rfl) (kit_same _)
theorem w_isI_ib {i : Int} : rIsI K [.int i, .ty "bool"] H Q = Q (.bl false) H := isI_mk (.int i) (fun _ h => by cases h; rfl) kit_int_bool
theorem w_isI_bi {i : Bool} : rIsI K [.bl i, .ty "int"] H Q = Q (.bl true) H := isI_mk (.bl i) (fun _ h => by cases h; rfl) kit_bool_int
theorem w_isI_bb {i : Bool} : rIsI K [.bl i, .ty "bool"] H Q = Q (.bl true) H := isI_mk (.bl i) (fun _ h => by cases h; rfl) (kit_same _)
theorem w_isI_ni : rIsI K [.non, .ty "int"] H Q = Q (.bl false) H := isI_mk .non (fun _ h => by cases h; rfl) kit_non_int
theorem w_isI_nb : rIsI K [.non, .ty "bool"] H Q = Q (.bl false) H := isI_mk .non (fun _ h => by cases h; rfl) kit_non_bool
theorem w_isI_si {x : Str} : rIsI K [.str x, .ty "int"] H Q = Q (.bl false) H := isI_mk (.str x) (fun _ h => by cases h; rfl) kit_str_int
theorem w_isI_sb {x : Str} : rIsI K [.str x, .ty "bool"] H Q = Q (.bl false) H := isI_mk (.str x) (fun _ h => by cases h; rfl) kit_str_bool
end
theorem pow_pos2 (k : Nat) : (0 : Int) < 2 ^ k := Int.pow_pos (by decide)
end L2
set_option Elab.async false
set_option linter.all false
set_option maxRecDepth 100000
set_option maxHeartbeats 1000000
namespace L2
open PySem PySem.Spec PyProof.Rows
def closOf (scope : Scope) (env : Env) : List (Str × Addr) := (scope.names.filterMap fun x => if x.2 == .free then (env.cells.lookup x.1).map fun c => (x.1, c) else none).reverse
theorem closureFor_ok {scope : Scope} {env : Env} (h : ∀ x ∈ scope.names, x.2 = .free → ∃ c, env.cells.lookup x.1 = some c) : closureFor scope env = pure (closOf scope env) := by
  unfold closureFor closOf
  have all : ∀ (l : List (Str × NameKind)) (acc : List (Str × Addr)), (∀ x ∈ l, x.2 = .free → ∃ c, env.cells.lookup x.1 = some c) →
      (forIn l acc fun x r => (match x with | (name, kind) => if (kind == .free) = true then do let a ← cellOf env name; pure (ForInStep.yield ((name, a) :: r)) else pure (ForInStep.yield r) : Sem (ForInStep (List (Str × Addr))))) =
        pure ((l.filterMap fun x => if x.2 == .free then (env.cells.lookup x.1).map fun c => (x.1, c) else none).reverse ++ acc) := by
    intro l
    induction l with
    | nil => intro acc _; simp
    | cons x r ih =>
      intro acc hx
      obtain ⟨n, k⟩ := x
      have hr : ∀ y ∈ r, y.2 = .free → ∃ c, env.cells.lookup y.1 = some c := fun y hy => hx y (List.mem_cons_of_mem _ hy)
      by_cases hk : k = .free
      · subst hk
        obtain ⟨c, hc⟩ := hx (n, .free) List.mem_cons_self rfl
        have e1 : cellOf env n = pure c := by unfold cellOf; rw [show env.cells.lookup n = some c from hc]
        simp only [List.forIn_cons, beq_self_eq_true, if_true, e1, pure_bind, List.filterMap_cons]
        rw [ih _ hr]
        simp [show env.cells.lookup n = some c from hc]
      · have hb : (k == NameKind.free) = false := by simpa using hk
        simp only [List.forIn_cons, hb, Bool.false_eq_true, if_false, pure_bind, List.filterMap_cons]
        rw [ih _ hr]
  have := all scope.names [] h
  rw [List.append_nil] at this
  simp only [bind_pure]
  first | exact this | (rw [this]) | (simpa using this)
theorem mem_clos {scope : Scope} {env : Env} {x : Str} {c : Addr} (h : (closOf scope env).lookup x = some c) : env.cells.lookup x = some c := by
  have m := PySem.mem_of_lookup h
  unfold closOf at m
  rw [List.mem_reverse, List.mem_filterMap] at m
  obtain ⟨y, hy, e⟩ := m
  split at e
  · cases q : env.cells.lookup y.1 with
    | none => rw [q] at e; cases e
    | some d =>
      rw [q] at e
      simp only [Option.map_some, Option.some.injEq, Prod.mk.injEq] at e
      rw [← e.1, q, e.2]
  · cases e
theorem lookup_mem {α : Type} : ∀ {l : List (Str × α)} {x : Str} {c : α}, (x, c) ∈ l → ∃ d, l.lookup x = some d
  | (k, v) :: r, x, c, h => by
    rw [List.lookup_cons]
    cases hb : x == k with
    | true => exact ⟨v, rfl⟩
    | false =>
      rcases List.mem_cons.mp h with e | e
      · injection e with e1 e2
        subst e1
        simp at hb
      · exact lookup_mem e
theorem clos_has {scope : Scope} {env : Env} {x : Str} {c : Addr} (h : (x, NameKind.free) ∈ scope.names) (hc : env.cells.lookup x = some c) : (closOf scope env).lookup x = some c := by
  have m : (x, c) ∈ closOf scope env := by
    unfold closOf
    rw [List.mem_reverse, List.mem_filterMap]
    exact ⟨(x, .free), h, by simp [hc]⟩
  obtain ⟨d, hd⟩ := lookup_mem m
  have := mem_clos hd
  rw [hc] at this
  rw [hd, ← this]
theorem relabel_lookup {env : Env} : ∀ {names : List (Str × NameKind)} {x : Str} {k : NameKind},
    (names.map fun (n, k) => if (k == NameKind.free && env.scope.kind == .function && env.kindOf n == some .cell) then (n, NameKind.cell) else (n, k)).lookup x = some k →
    ∃ k0, names.lookup x = some k0 ∧ (k0 = k ∨ (k0 = .free ∧ k = .cell))
  | [], _, _, h => by simp at h
  | (n, k) :: r, x, k', h => by
    simp only [List.map_cons] at h
    by_cases hc : (k == NameKind.free && env.scope.kind == .function && env.kindOf n == some .cell) = true
    · rw [if_pos hc, List.lookup_cons] at h
      rw [List.lookup_cons]
      cases hb : x == n with
      | true =>
        rw [hb] at h
        simp only [Option.some.injEq] at h
        refine ⟨k, rfl, .inr ⟨?_, h.symm⟩⟩
        simp only [Bool.and_eq_true, beq_iff_eq] at hc
        exact hc.1.1
      | false =>
        rw [hb] at h
        exact relabel_lookup h
    · rw [if_neg hc, List.lookup_cons] at h
      rw [List.lookup_cons]
      cases hb : x == n with
      | true =>
        rw [hb] at h
        simp only [Option.some.injEq] at h
        exact ⟨k, rfl, .inl h⟩
      | false =>
        rw [hb] at h
        exact relabel_lookup h
theorem codeAny_compLoop_gen {prog : Program} {w : World} {A : Around} {R : Result → Shared → Prop} {s : Shared} {elt target iter : Expr} {ifs : List Expr} {scope : Scope} {pos : Pos} {it acc : Value} {env : Env} (I : Nat → Shared → Prop)
    (turn : ∀ n s, I n s → wpAny (model prog w) A (pyNext it) (fun r s₁ => match r with
      | none => R (.ok .next) s₁
      | some v => wpAny (model prog w) A (letOwnedTupleGo target it v) (fun _ s₁' => wpAny (model prog w) A (assign target env v) (fun _ s₂ =>
          wpAny (model prog w) A (forIn ifs true fun c r => if r = true then do let ok ← isTrue c env (eval c env); pure (ForInStep.yield ok) else pure (ForInStep.yield r)) (fun ok s₃ =>
            if ok = true then wpAny (model prog w) A (eval elt env) (fun x s₄ =>
              wpAny (model prog w) A (call (.builtin "list.append") [acc, x]) (fun _ s₅ => ∃ m, m < n ∧ I m s₅) (fun _ _ => False) s₄) (fun _ _ => False) s₃
            else ∃ m, m < n ∧ I m s₃) (fun _ _ => False) s₂) (fun _ _ => False) s₁') (fun _ _ => False) s₁) (fun _ _ => False) s)
    (n : Nat) (h : I n s) :
    codeAny (model prog w) A (.compLoop (.ListComp elt [⟨target, iter, ifs, 0⟩] scope pos) 0 it acc env) R s := by
  refine codeAny_loop rfl I (fun n s hI => ?_) n h
  show wpAny _ A ((compTurn (.ListComp elt [⟨target, iter, ifs, 0⟩] scope pos) 0 it acc env).onRaise (fun x => do noteFrame x env; theTreesLotGoes x)) _ _ s
  refine wpAny_noted ?_
  rw [compTurn_list]
  refine wpAny_bind (wpAny_standAt (wpAny_bind (wpAny_mono (turn n s hI) (fun r s₁ h₁ => ?_) fun _ _ h' => h'.elim)))
  cases r with
  | none => exact wpAny_pure h₁
  | some v =>
    refine wpAny_bind (wpAny_mono h₁ (fun _ s₁' h₁' => ?_) fun _ _ h' => h'.elim)
    refine wpAny_bind (wpAny_mono h₁' (fun _ s₂ h₂ => wpAny_bind (wpAny_mono h₂ (fun ok s₃ h₃ => ?_) fun _ _ h' => h'.elim)) fun _ _ h' => h'.elim)
    cases ok with
    | false => exact wpAny_pure ⟨rfl, h₃⟩
    | true =>
      exact wpAny_bind (wpAny_bind (wpAny_mono h₃ (fun x s₄ h₄ => wpAny_bind (wpAny_mono h₄ (fun _ s₅ h₅ => wpAny_pure (wpAny_pure ⟨rfl, h₅⟩)) fun _ _ h' => h'.elim)) fun _ _ h' => h'.elim))
def PN (X : Cx) (ifs : List Expr) (t : TT) : Prop :=
  ∀ (pins : List (Addr × Obj)) (s : Shared) (σ : St) (H : Hp) (Q : Bool → Hp → Prop), Inv X pins σ H s → t σ H Q →
    wpAny (model X.prog X.w) X.A (forIn ifs true fun c r => if r = true then do let ok ← isTrue c X.env (eval c X.env); pure (ForInStep.yield ok) else pure (ForInStep.yield r)) (TP X pins σ Q) X.xe s
def tYes : TT := fun _ H Q => Q true H
section
variable {X : Cx}
theorem pn_nil : PN X [] tYes := fun _ _ σ H Q I h => wpAny_pure ⟨H, I, h⟩
end
def compCx (X : Cx) (N : List Str) (scope : Scope) (C : Addr) (s : Shared) (H : Hp) (fp : List Addr) : Cx :=
  { X with N := N, s₀ := s, H₀ := H, env := compEnvC scope (closOf scope X.env) C X.env, outer := X.stack, stack := X.stack, ex := fp, fn := fun _ => false, pn := [], xe := fun _ _ => False }
structure CompBody (X : Cx) (tg : Expr) (ifs : List Expr) (elt : Expr) (g : TG) (tt : TT) (te : TE) : Prop where
  tg : PG X tg g
  tt : PN X ifs tt
  te : PE X elt te
def scB (sc xsc : Scope) : Bool := (sc.kind == .function) && sc.names.all fun x => (x.2 != .cell) && (x.2 != .local || sc.names.lookup x.1 == some .local) && (x.2 != .free || (xsc.names.lookup x.1 == some .cell) || (xsc.names.lookup x.1 == some .free))
def capB (cs : List Nat) (ns XN : List Str) (sc xsc : Scope) : Bool := (cs.zip ns).all fun p => (XN[p.1]? == some p.2) && (sc.names.lookup p.2 == some .free) && (xsc.names.lookup p.2 != some .local)
def capSt (nt : Nat) (cs : List Nat) (σ : St) : St := List.replicate nt none ++ cs.map fun c => (σ[c]?).join
def tComp (wi : TI) (nt : Nat) (cs : List Nat) (g : TG) (tt : TT) (te : TE) : TE := fun σ H Q => wi σ H fun J H1 => ∀ acc, H1 acc = none →
  ∃ W : Nat → Nat → List V → St → Hp → Prop, (∃ m, W 0 m [] (capSt nt cs σ) (upd H1 acc (.lst []))) ∧ ∀ i m ys σ' H', W i m ys σ' H' → H' acc = some (.lst ys) ∧
    ((J.stop i H' ∧ Q (.ref acc) H') ∨ (J.go i H' ∧ ys.length < sizeLine ∧ ∃ N : List V → St → Hp → Prop, (∀ zs σ2 H2, N zs σ2 H2 → ∃ m', m' < m ∧ W (i + 1) m' zs σ2 H2) ∧
      ∀ x H2, J.yld i H' x H2 → g x σ' H2 fun σ3 H3 => tt σ3 H3 fun b H4 => if b = true then te σ3 H4 fun y H5 => H5 acc = some (.lst ys) ∧ N (ys ++ [y]) σ3 (upd H5 acc (.lst (ys ++ [y]))) else N ys σ3 H4))
section
variable {X : Cx}
theorem compCx_inv {pins : List (Addr × Obj)} {σ : St} {H : Hp} {s : Shared} {N : List Str} {scope : Scope} {nt : Nat} {cs : List Nat} {fp : List Addr} {h1 : Heap} {tk : Nat} (I : Inv X pins σ H s)
    (hsc : scB scope X.env.scope = true) (hcap : capB cs (N.drop nt) X.N scope X.env.scope = true) (hlen : N.length = nt + cs.length)
    (hf : ∀ b ∈ fp, FpOk X pins H b) (hfl : ∀ b ∈ fp, b < s.heap.objs.size) (hn : h1.Ns s.heap.objs.size fun _ => none) (hk : ∀ b o, s.heap.get? b = some o → h1.get? b = some o) :
    Inv (compCx X N scope s.heap.objs.size s H fp) [] (capSt nt cs σ) H { s with heap := h1, toks := tk } := by
  unfold scB at hsc
  rw [Bool.and_eq_true] at hsc
  obtain ⟨hkd, hall⟩ := hsc
  have hkd : scope.kind = .function := by simpa using hkd
  rw [List.all_eq_true] at hall
  have nocell : ∀ x ∈ scope.names, x.2 ≠ .cell := fun x hx e => by have := hall x hx; rw [e] at this; simp at this
  have free2 : ∀ x, (x, NameKind.free) ∈ scope.names → X.env.kindOf x = some .cell ∨ X.env.kindOf x = some .free := fun x hx => by
    have := hall _ hx
    simp only [bne_self_eq_false, Bool.false_or, Bool.and_eq_true, Bool.or_eq_true, beq_iff_eq] at this
    exact this.2
  have kinds : ∀ x, ((compCx X N scope s.heap.objs.size s H fp).env.kindOf x = some .cell ∨ (compCx X N scope s.heap.objs.size s H fp).env.kindOf x = some .free) → (x, NameKind.free) ∈ scope.names := fun x hx => by
    have q : ∃ k, (relabel scope X.env).names.lookup x = some k ∧ (k = .cell ∨ k = .free) := by
      rcases hx with e | e
      · exact ⟨_, e, .inl rfl⟩
      · exact ⟨_, e, .inr rfl⟩
    obtain ⟨k, e, hk'⟩ := q
    obtain ⟨k0, e0, r⟩ := relabel_lookup e
    have m := PySem.mem_of_lookup e0
    rcases r with r | ⟨r, _⟩
    · subst r
      rcases hk' with z | z
      · exact absurd z (nocell _ m)
      · rw [z] at m; exact m
    · rw [r] at m; exact m
  have cellOf : ∀ x c, (closOf scope X.env).lookup x = some c → X.env.cells.lookup x = some c := fun x c e => mem_clos e
  have clt : ∀ x c, X.env.cells.lookup x = some c → c < s.heap.objs.size := fun x c e => by
    obtain ⟨v, q⟩ := I.cell x c e
    exact q.lt
  refine ⟨⟨I.ok.mod, ?_, I.ok.glob, I.ok.blt, Nat.le_refl _, ?_, ?_, ?_, I.ok.hd, I.ok.frames, .inl rfl, ?_, ?_, ?_, ?_, ?_, ?_, ?_⟩, rfl, I.bare, Un.kept hk, ⟨_, hn, ?_⟩, ?_, ?_, ?_, ?_, I.hok.kept hk, ?_⟩
  · show (relabel scope X.env).kind = _
    exact hkd
  · intro x y c e1 e2
    exact I.ok.inj x y c (cellOf x c e1) (cellOf y c e2)
  · intro x hx
    have m := kinds x hx
    obtain ⟨c, hc⟩ := I.ok.has x (free2 x m)
    exact ⟨c, clos_has m hc⟩
  · intro x c z
    cases z
  · intro b hb
    obtain ⟨f0, f1, f2, f3, f4, f5⟩ := hf b hb
    exact ⟨Nat.ne_of_lt (hfl b hb), fun x c e => f4 x c (cellOf x c e)⟩
  · intro b o e
    exact I.bs b o e
  · exact Nat.le_trans I.ok.bsz I.sz
  · intro b o e hb
    obtain ⟨f0, f1, f2, f3, f4, f5⟩ := hf b hb
    rcases f3 with z | z
    · exact I.ok.noex b o e z
    · exact absurd (Nat.lt_of_lt_of_le (Heap.lt_size (I.ok.bs b o e).1) z) (Nat.lt_irrefl _)
  · intro b hb hs
    obtain ⟨f0, f1, f2, f3, f4, f5⟩ := hf b hb
    rcases List.mem_cons.mp (I.stkSub b hs) with z | z
    · exact f1 z
    · exact f2 z
  · exact I.stack
  · exact I.stkFree
  · intro i x v e1 e2 _
    have hi : nt ≤ i := by
      refine Nat.le_of_not_lt fun z => ?_
      unfold capSt at e2
      rw [List.getElem?_append_left (by simpa using z), List.getElem?_replicate, if_pos z] at e2
      cases e2
    unfold capSt at e2
    rw [List.getElem?_append_right (by simpa using hi), List.length_replicate, List.getElem?_map] at e2
    cases q : cs[i - nt]? with
    | none => rw [q] at e2; cases e2
    | some c =>
      rw [q] at e2
      simp only [Option.map_some, Option.some.injEq] at e2
      have e3 : σ[c]? = some (some v) := by
        cases z : σ[c]? with
        | none => rw [z] at e2; cases e2
        | some o => rw [z] at e2; exact congrArg some e2
      unfold capB at hcap
      rw [List.all_eq_true] at hcap
      have e4 : (N.drop nt)[i - nt]? = some x := by
        rw [List.getElem?_drop, show nt + (i - nt) = i by omega]
        exact e1
      have m : (c, x) ∈ cs.zip (N.drop nt) := by
        have : (cs.zip (N.drop nt))[i - nt]? = some (c, x) := by rw [List.getElem?_zip_eq_some]; exact ⟨q, e4⟩
        exact List.mem_of_getElem? this
      have hm := hcap _ m
      simp only [Bool.and_eq_true, beq_iff_eq, bne_iff_ne, ne_eq] at hm
      obtain ⟨⟨h1', h2'⟩, h3'⟩ := hm
      have hlk : scope.names.lookup x = some .free := h2'
      have h2' : (x, NameKind.free) ∈ scope.names := PySem.mem_of_lookup hlk
      obtain ⟨mm, hmm, hl⟩ := I.loc
      have vis : Vis X.env.scope x := .inr (free2 x h2')
      obtain ⟨u, r, l⟩ := hl c x v h1' e3 vis
      rcases l with ⟨z, _⟩ | ⟨z, d, hd, hcell⟩
      · exact absurd z h3'
      · refine ⟨u, r, .inr ⟨?_, d, clos_has h2' hd, ?_⟩⟩
        · -- its kind in the block
          have isf : ∃ k, (relabel scope X.env).names.lookup x = some k := by
            have : ∃ k', (x, k') ∈ (relabel scope X.env).names := by
              unfold relabel
              by_cases cc : (X.env.scope.kind == .function && X.env.kindOf x == some .cell) = true
              · refine ⟨.cell, List.mem_map.mpr ⟨(x, .free), h2', ?_⟩⟩
                simp only [Bool.and_eq_true] at cc
                simp [cc.1, cc.2]
              · refine ⟨.free, List.mem_map.mpr ⟨(x, .free), h2', ?_⟩⟩
                simp only [Bool.and_eq_true] at cc
                have cc' : ¬ ((NameKind.free == NameKind.free && X.env.scope.kind == .function && X.env.kindOf x == some .cell) = true) := by
                  simp only [beq_self_eq_true, Bool.true_and, Bool.and_eq_true]
                  exact cc
                show (if (NameKind.free == NameKind.free && X.env.scope.kind == .function && X.env.kindOf x == some .cell) = true then (x, NameKind.cell) else (x, NameKind.free)) = (x, NameKind.free)
                rw [if_neg cc']
            obtain ⟨k', hk'⟩ := this
            exact lookup_mem hk'
          obtain ⟨k, ek⟩ := isf
          obtain ⟨k0, e0, rr⟩ := relabel_lookup ek
          rcases rr with rr | ⟨_, rr⟩
          · subst rr
            rw [hlk] at e0
            cases e0
            exact .inr ek
          · subst rr
            exact .inl ek
        · obtain ⟨o, ho, hd'⟩ := hcell
          exact ⟨o, hk _ _ ho, hd'⟩
  · intro x c e
    obtain ⟨v, o, ho, hd⟩ := I.cell x c (cellOf x c e)
    exact ⟨v, o, hk _ _ ho, hd⟩
  · exact I.hok.fresh (Nat.le_refl _)
  · intro x c e
    exact I.freeC x c (cellOf x c e)
  · intro p hp
    cases hp
  · show (capSt nt cs σ).length = N.length
    unfold capSt
    rw [List.length_append, List.length_replicate, List.length_map, hlen]
theorem un_same {fs ex : List Addr} {H H' : Hp} {h h1 h' : Heap} {C : Addr} (u : Un fs ex H H' h h1) (hs : Heap.SameBut C h1 h') (hC : h.objs.size ≤ C) : Un fs ex H H' h h' where
  keep := fun b o e n hb hx => (hs.2 b (Nat.ne_of_lt (Nat.lt_of_lt_of_le (Heap.lt_size e) hC))).trans (u.keep b o e n hb hx)
  slot := fun b o e n hb hx => by
    obtain ⟨sl, q⟩ := u.slot b o e n hb hx
    exact ⟨sl, (hs.2 b (Nat.ne_of_lt (Nat.lt_of_lt_of_le (Heap.lt_size e) hC))).trans q⟩
  free := u.free
  there := fun b o e hx => by
    obtain ⟨o', q⟩ := u.there b o e hx
    exact ⟨o', (hs.2 b (Nat.ne_of_lt (Nat.lt_of_lt_of_le (Heap.lt_size e) hC))).trans q⟩
  tups := u.tups
  frzs := u.frzs
  tbls := u.tbls
theorem hok_same {P : Program} {w : World} {H : Hp} {h h' : Heap} {C : Addr} (x : HOk P w H h) (hs : Heap.SameBut C h h') (hC : H C = none) : HOk P w H h' := fun b u e =>
  (x b u e).stay (fun c v hc q => (hs.2 c (fun z => by
    subst z
    rcases hc with z | z
    · subst z; rw [hC] at e; cases e
    · rw [hC] at z; cases z)).trans q) (fun _ q => q) fun _ _ q => q
theorem pe_comp0 {tg iter elt : Expr} {ifs : List Expr} {scope : Scope} {pos : Pos} {wi : TI} {N : List Str} {nt : Nat} {cs : List Nat} {g : TG} {tt : TT} {te : TE} (hc : X.calm = true) (hi : PI X tg iter wi)
    (hb : N.Nodup → ∀ (C : Addr) (s : Shared) (H : Hp) (fp : List Addr), CompBody (compCx X N scope C s H fp) tg ifs elt g tt te)
    (hnd : N.Nodup) (hsc : scB scope X.env.scope = true) (hcap : capB cs (N.drop nt) X.N scope X.env.scope = true) (hlen : N.length = nt + cs.length)
    (hs : ∀ x, foldedSetIterable iter X.env x = pure x) : PE X (.ListComp elt [⟨tg, iter, ifs, 0⟩] scope pos) (tComp wi nt cs g tt te) := by
  intro pins s σ H Q I h
  have hsc' := hsc
  unfold scB at hsc'
  rw [Bool.and_eq_true] at hsc'
  obtain ⟨hkd, hall⟩ := hsc'
  have hkd : scope.kind = .function := by simpa using hkd
  rw [List.all_eq_true] at hall
  have nocell : ∀ x ∈ scope.names, x.2 ≠ .cell := fun x hx e => by have := hall x hx; rw [e] at this; simp at this
  have hnames : ∀ x ∈ scope.names, x.2 = .local → scope.names.lookup x.1 = some .local := fun x hx e => by
    have := hall x hx
    rw [e] at this
    simp only [bne_self_eq_false, Bool.false_or, Bool.and_eq_true, beq_iff_eq] at this
    exact this.1.2
  have hclos : closureFor scope X.env = pure (closOf scope X.env) := closureFor_ok fun x hx e => by
    have := hall x hx
    rw [e] at this
    simp only [bne_self_eq_false, Bool.false_or, Bool.and_eq_true, Bool.or_eq_true, beq_iff_eq] at this
    exact I.ok.has x.1 this.2
  rw [eval_ListComp]
  refine wpAny_comprehension_free (use := none) rfl hs hclos hkd hnames (thn (hi pins s σ H _ I h) fun v s1 h1 => thn h1 fun itv s2 h2 => ?_)
  obtain ⟨it, fp, tn, J, H2, e, I2, T, st2, f2, hR⟩ := h2
  subst e
  refine wpAny_newObj_type (wpAny_newFunctionEnv nocell (by intro y hy; simp at hy) (fun h3 hn3 hs3 => ?_) hkd)
  have fr := I2.fresh
  have I3 : Inv X pins σ (upd H2 s2.heap.objs.size (.lst [])) { s2 with heap := s2.heap.push { cls := .type "list", data := .seq ([] : List Value).toArray }, toks := s2.toks } := I2.lnew .nil (le_size (by decide))
  obtain ⟨W, ⟨m0, w0⟩, turn⟩ := hR _ fr
  generalize hacc : s2.heap.objs.size = acc at *
  generalize hsx : ({ s2 with heap := s2.heap.push { cls := .type "list", data := .seq ([] : List Value).toArray }, toks := s2.toks } : Shared) = sx at *
  have hC : sx.heap.objs.size = acc + 1 := by rw [← hsx, ← hacc]; exact Heap.size_push _ _
  have fpl : ∀ b ∈ fp, b < acc := fun b hb => by
    obtain ⟨o, ho, _⟩ := T.obj _ _ st2 b hb
    rw [← hacc]
    exact Heap.lt_size ho
  have f3 : ∀ b ∈ fp, FpOk X pins (upd H2 acc (.lst [])) b := fun b hb => by
    obtain ⟨f0, f1⟩ := f2 b hb
    exact ⟨by rw [upd_ne (Nat.ne_of_lt (fpl b hb))]; exact f0, f1⟩
  have keep3 : ∀ b o, sx.heap.get? b = some o → h3.get? b = some o := fun b o e => by
    have hne : b ≠ sx.heap.objs.size := Nat.ne_of_lt (Heap.lt_size e)
    exact (hs3.2 b hne).trans (Heap.get?_push_of_some _ e)
  have IC : Inv (compCx X N scope sx.heap.objs.size sx (upd H2 acc (.lst [])) fp) [] (capSt nt cs σ) (upd H2 acc (.lst [])) { sx with heap := h3, toks := sx.toks + ([] : List (Str × Value)).length } :=
    compCx_inv I3 hsc hcap hlen f3 (fun b hb => by rw [hC]; exact Nat.lt_succ_of_lt (fpl b hb)) (by simpa using hn3) keep3
  have hn3' : H2 acc = none := fr
  generalize hXC : compCx X N scope sx.heap.objs.size sx (upd H2 acc (.lst [])) fp = XC at IC
  have ctxP : XC.prog = X.prog := by rw [← hXC]; rfl
  have ctxW : XC.w = X.w := by rw [← hXC]; rfl
  have ctxK : XC.K = X.K := by rw [← hXC]; rfl
  have ctxA : XC.A = X.A := by rw [← hXC]; rfl
  have ctxC : XC.calm = true := by rw [← hXC]; exact hc
  have ctxX : XC.xe = fun _ _ => False := by rw [← hXC]; rfl
  have ctxE : XC.env = compEnvC scope (closOf scope X.env) sx.heap.objs.size X.env := by rw [← hXC]; rfl
  have body : CompBody XC tg ifs elt g tt te := by rw [← hXC]; exact hb hnd _ _ _ _
  have st3 : tn 0 h3 := T.keep _ _ _ st2 fun b hb o e => keep3 b o (by rw [← hsx]; exact Heap.get?_push_of_some _ e)
  have stat : ∀ {H' : Hp}, (∀ b ∈ fp, H' b = none) → ∀ b ∈ fp, FpOk XC [] H' b := fun hn b hb => by
    obtain ⟨f0, f1, f2', f3', f4, f5⟩ := f3 b hb
    refine ⟨hn b hb, ?_, ?_, .inl (by rw [← hXC]; exact hb), fun x c e => ?_, fun p hp => ?_⟩
    · rw [ctxE]
      exact Nat.ne_of_lt (by rw [hC]; exact Nat.lt_succ_of_lt (fpl b hb))
    · rw [← hXC]
      intro z
      rcases List.mem_cons.mp (I3.stkSub b z) with z | z
      · exact f1 z
      · exact f2' z
    · rw [ctxE] at e
      exact f4 x c (mem_clos e)
    · rw [← hXC] at hp
      cases hp
  have fin : ∀ {σ' : St} {H' : Hp} {s' : Shared}, Inv XC [] σ' H' s' → Q (.ref acc) H' → compPost (model X.prog X.w) X.A X.xe none (EP X pins σ Q) (.ref acc) sx.heap.objs.size (.ok .next) s' := by
    intro σ' H' s' J' q
    obtain ⟨m, hm, _⟩ := J'.loc
    have hfree := J'.free
    rw [ctxE] at hm hfree
    refine ⟨m, hm, fun h' hs' => ⟨.ref acc, H', ?_, rfl, q⟩⟩
    have u := J'.base
    rw [← hXC] at u
    have ok := J'.hok
    rw [ctxP, ctxW] at ok
    have os := J'.os
    rw [← hXC] at os
    refine I3.call' (s' := { s' with heap := h' }) os (un_same u hs' (Nat.le_refl _)) (hok_same ok hs' hfree) J'.bare fun b hb => ?_
    obtain ⟨f0, f1, f2', f3', f4, f5⟩ := f3 b hb
    exact ⟨f3', f1, f4, f5⟩
  have loop : codeAny (model X.prog X.w) X.A (.compLoop (.ListComp elt [⟨tg, iter, ifs, 0⟩] scope pos) 0 (.ref it) (.ref acc) XC.env) (compPost (model X.prog X.w) X.A X.xe none (EP X pins σ Q) (.ref acc) sx.heap.objs.size)
      { sx with heap := h3, toks := sx.toks + ([] : List (Str × Value)).length } := by
    rw [← ctxP, ← ctxW, ← ctxA]
    refine codeAny_compLoop_gen (fun n s' => ∃ i ys σ' H', Inv XC [] σ' H' s' ∧ tn i s'.heap ∧ (∀ b ∈ fp, H' b = none) ∧ W i n ys σ' H') ?_ m0 ⟨0, [], _, _, IC, st3, fun b hb => (f3 b hb).1, w0⟩
    rintro n s3 ⟨i, ys, σ3, H3, I3', st3', fr3, w3⟩
    have T' := T
    rw [← ctxP, ← ctxW, ← ctxK] at T'
    obtain ⟨hacc3, alt⟩ := turn i n ys σ3 H3 w3
    rcases alt with ⟨stop, qn⟩ | ⟨go, hsz, NN, hNN, step⟩
    · refine thn (T'.done XC rfl rfl rfl ctxC i [] s3 σ3 H3 _ I3' (stat fr3) st3' stop) fun r s4 ⟨hr, I4⟩ => ?_
      subst hr
      rw [ctxP, ctxW, ctxA]
      exact fin I4 qn
    · refine thn (T'.item XC rfl rfl rfl ctxC i [] s3 σ3 H3 _ I3' (stat fr3) st3' go) fun r s4 ⟨u, hr, h4⟩ => ?_
      subst hr
      refine thn h4 fun _ s5 ⟨x, H5, I5, r5, y5, st5, fr5⟩ => ?_
      have I5' := I5.pinned (stat fr5) (T'.obj _ _ st5)
      have a1 := body.tg _ s5 σ3 H5 x u _ I5' r5 (step x H5 y5)
      rw [ctxX] at a1
      refine thn a1 fun _ s6 ⟨σ6, H6, I6, q6⟩ => ?_
      have a2 := body.tt _ s6 σ6 H6 _ I6 q6
      rw [ctxX] at a2
      refine thn a2 fun b s7 ⟨H7, I7, q7⟩ => ?_
      have again : ∀ {s8 : Shared} {σ7 : St} {H7 : Hp} {zs : List V}, Inv XC ([] ++ pinsAt fp s5.heap) σ7 H7 s8 → NN zs σ7 H7 → ∃ m, m < n ∧ ∃ i ys σ' H', Inv XC [] σ' H' s8 ∧ tn i s8.heap ∧ (∀ b ∈ fp, H' b = none) ∧ W i m ys σ' H' := fun {s8 σ7 H7 zs} I7 n7 => by
        obtain ⟨m', hm, w7⟩ := hNN zs σ7 H7 n7
        refine ⟨m', hm, i + 1, zs, σ7, H7, I7.unpinned, T'.keep _ _ _ st5 fun b hb o e => (I7.pin (b, o) (List.mem_append_right _ (List.mem_append_right _ (mem_pinsAt hb e)))).1, fun b hb => ?_, w7⟩
        obtain ⟨o, e, d⟩ := T'.obj _ _ st5 b hb
        exact (I7.pin (b, o) (List.mem_append_right _ (List.mem_append_right _ (mem_pinsAt hb e)))).2.1
      cases b with
      | false =>
        rw [if_neg Bool.false_ne_true] at q7 ⊢
        exact again I7 q7
      | true =>
        rw [if_pos rfl] at q7 ⊢
        have a3 := body.te _ s7 σ6 H7 _ I7 q7
        rw [ctxX] at a3
        refine thn a3 fun xv s8 ⟨y, H8, I8, r8, q8⟩ => ?_
        obtain ⟨hl8, n8⟩ := q8
        have a4 := mt_append (X := XC) _ s8 σ6 H8 (.ref acc) [y] (.ref acc) [xv] (fun _ H9 => NN (ys ++ [y]) σ6 H9) I8 rfl (.cons r8 .nil) ⟨acc, ys, y, rfl, rfl, hl8, hsz, n8⟩
        rw [ctxX] at a4
        refine thn a4 fun _ s9 ⟨_, H9, I9, _, q9⟩ => ?_
        exact again I9 q9
  rw [ctxE] at loop
  exact codeAny_compStart_list loop (T.self X.A 0 _ _ _ st3 loop)
end
end L2
set_option Elab.async false
set_option linter.all false
set_option maxRecDepth 100000
set_option maxHeartbeats 1000000
namespace L2
open PySem PySem.Spec PyProof.Rows
inductive Dt where
  | f (x : V)
  | l (xs : List Dt)
  | t (xs : List Dt)
mutual
def Is (K : PySem.W.Frag) (H : Hp) (x : V) : Dt → Prop
  | .f y => x = y ∧ flatV y = true
  | .l ds => ∃ p xs, x = .ref p ∧ SqL K H p xs ∧ IsL K H xs ds
  | .t ds => ∃ p xs, x = .ref p ∧ SqT K H p xs ∧ IsL K H xs ds
def IsL (K : PySem.W.Frag) (H : Hp) (xs : List V) : List Dt → Prop
  | [] => xs = []
  | d :: ds => ∃ x r, xs = x :: r ∧ Is K H x d ∧ IsL K H r ds
end
mutual
def deq : Dt → Dt → Bool
  | .f x, .f y => eqV x y
  | .l xs, .l ys => deqL xs ys
  | .t xs, .t ys => deqL xs ys
  | _, _ => false
def deqL : List Dt → List Dt → Bool
  | [], [] => true
  | x :: xs, y :: ys => deq x y && deqL xs ys
  | _, _ => false
end
mutual
def dep : Dt → Nat
  | .f _ => 0
  | .l xs => depL xs + 1
  | .t xs => depL xs + 1
def depL : List Dt → Nat
  | [] => 0
  | d :: ds => max (dep d) (depL ds)
end
theorem IsL.len {K : PySem.W.Frag} {H : Hp} : ∀ {ds : List Dt} {xs : List V}, IsL K H xs ds → xs.length = ds.length
  | [], xs, h => by rw [IsL] at h; subst h; rfl
  | d :: ds, xs, h => by
    rw [IsL] at h
    obtain ⟨x, r, rfl, _, h⟩ := h
    rw [List.length_cons, List.length_cons, IsL.len h]
theorem IsL.get {K : PySem.W.Frag} {H : Hp} : ∀ {ds : List Dt} {xs : List V} {j : Nat} {x : V}, IsL K H xs ds → xs[j]? = some x → ∃ d, ds[j]? = some d ∧ Is K H x d
  | [], xs, j, x, h, e => by rw [IsL] at h; subst h; simp at e
  | d :: ds, xs, j, x, h, e => by
    rw [IsL] at h
    obtain ⟨y, r, rfl, hy, h⟩ := h
    cases j with
    | zero => simp at e; subst e; exact ⟨d, rfl, hy⟩
    | succ j => exact IsL.get (j := j) h (by simpa using e)
mutual
theorem deq_refl : ∀ (d : Dt) {K : PySem.W.Frag} {H : Hp} {x : V}, Is K H x d → deq d d = true
  | .f y, K, H, x, h => by
    rw [Is] at h
    rw [deq]
    have hy := h.2
    cases y <;> first | (simp [eqV]; done) | (exact absurd hy (by decide)) | (cases hy)
  | .l ds, K, H, x, h => by
    rw [Is] at h
    obtain ⟨p, xs, _, _, h⟩ := h
    rw [deq]
    exact deqL_refl ds h
  | .t ds, K, H, x, h => by
    rw [Is] at h
    obtain ⟨p, xs, _, _, h⟩ := h
    rw [deq]
    exact deqL_refl ds h
theorem deqL_refl : ∀ (ds : List Dt) {K : PySem.W.Frag} {H : Hp} {xs : List V}, IsL K H xs ds → deqL ds ds = true
  | [], _, _, _, _ => by rw [deqL]
  | d :: ds, K, H, xs, h => by
    rw [IsL] at h
    obtain ⟨y, r, _, hy, h⟩ := h
    rw [deqL, deq_refl d hy, deqL_refl ds h]
    rfl
end
section
variable {X : Cx} {pins : List (Addr × Obj)} {σ : St} {H : Hp} {s : Shared}
mutual
theorem Is.inj : ∀ (d : Dt) {e : Dt} {x : V}, Inv X pins σ H s → Is X.K H x d → Is X.K H x e → (∀ p xs ys, SqL X.K H p xs → ¬ SqT X.K H p ys) → d = e
  | .f y, e, x, I, h, h', hk => by
    rw [Is] at h
    obtain ⟨rfl, hy⟩ := h
    cases e with
    | f z => rw [Is] at h'; rw [h'.1]
    | l ds => rw [Is] at h'; obtain ⟨p, xs, e, _⟩ := h'; subst e; cases hy
    | t ds => rw [Is] at h'; obtain ⟨p, xs, e, _⟩ := h'; subst e; cases hy
  | .l ds, e, x, I, h, h', hk => by
    rw [Is] at h
    obtain ⟨p, xs, rfl, hs, h⟩ := h
    cases e with
    | f z => rw [Is] at h'; obtain ⟨e, hz⟩ := h'; subst e; cases hz
    | l es =>
      rw [Is] at h'
      obtain ⟨q, ys, e, hs', h'⟩ := h'
      cases e
      rw [I.list_inj hs' hs] at h'
      rw [IsL.inj ds I h h' hk]
    | t es =>
      rw [Is] at h'
      obtain ⟨q, ys, e, hs', h'⟩ := h'
      cases e
      exact absurd hs' (hk _ _ _ hs)
  | .t ds, e, x, I, h, h', hk => by
    rw [Is] at h
    obtain ⟨p, xs, rfl, hs, h⟩ := h
    cases e with
    | f z => rw [Is] at h'; obtain ⟨e, hz⟩ := h'; subst e; cases hz
    | l es =>
      rw [Is] at h'
      obtain ⟨q, ys, e, hs', h'⟩ := h'
      cases e
      exact absurd hs (hk _ _ _ hs')
    | t es =>
      rw [Is] at h'
      obtain ⟨q, ys, e, hs', h'⟩ := h'
      cases e
      rw [I.tuple_inj hs' hs] at h'
      rw [IsL.inj ds I h h' hk]
theorem IsL.inj : ∀ (ds : List Dt) {es : List Dt} {xs : List V}, Inv X pins σ H s → IsL X.K H xs ds → IsL X.K H xs es → (∀ p xs ys, SqL X.K H p xs → ¬ SqT X.K H p ys) → ds = es
  | [], es, xs, I, h, h', hk => by
    rw [IsL] at h
    subst h
    cases es with
    | nil => rfl
    | cons e es => rw [IsL] at h'; obtain ⟨_, _, e, _⟩ := h'; cases e
  | d :: ds, es, xs, I, h, h', hk => by
    rw [IsL] at h
    obtain ⟨y, r, rfl, hy, h⟩ := h
    cases es with
    | nil => rw [IsL] at h'; cases h'
    | cons e es =>
      rw [IsL] at h'
      obtain ⟨y', r', e1, hy', h'⟩ := h'
      cases e1
      rw [Is.inj d I hy hy' hk, IsL.inj ds I h h' hk]
end
theorem Inv.apart (I : Inv X pins σ H s) : ∀ p xs ys, SqL X.K H p xs → ¬ SqT X.K H p ys := fun p xs ys h h' => by
  obtain ⟨its, _, ⟨o, n, e, c, _⟩, _⟩ := I.list h
  obtain ⟨its', _, ⟨o', e', c', _⟩, _⟩ := I.tuple h'
  rw [e] at e'
  cases e'
  rw [c] at c'
  exact absurd c' (by decide)
end
section
variable {X : Cx}
end
end L2
set_option Elab.async false
set_option linter.all false
set_option maxRecDepth 100000
set_option maxHeartbeats 1000000
namespace L2
open PySem PySem.Spec PyProof.Rows
section
variable {X : Cx} {pins : List (Addr × Obj)} {σ : St} {H : Hp} {s : Shared}
end
section
variable {X : Cx}
end
theorem isL_flat {K : PySem.W.Frag} {H : Hp} : ∀ {xs : List V}, xs.all flatV = true → IsL K H xs (xs.map Dt.f)
  | [], _ => by rw [List.map_nil, IsL]
  | x :: r, h => by
    rw [List.all_cons, Bool.and_eq_true] at h
    rw [List.map_cons, IsL]
    exact ⟨x, r, rfl, by rw [Is]; exact ⟨rfl, h.1⟩, isL_flat h.2⟩
theorem is_tup {K : PySem.W.Frag} {H : Hp} {p : Addr} {xs : List V} (h : SqT K H p xs) (f : xs.all flatV = true) : Is K H (.ref p) (.t (xs.map Dt.f)) := by rw [Is]; exact ⟨p, xs, rfl, h, isL_flat f⟩
def CompIt (J : It) (nt : Nat) (cs : List Nat) (g : TG) (tt : TT) (te : TE) (σ : St) (H1 : Hp) (Q : VK) : Prop := ∀ acc, H1 acc = none →
  ∃ W : Nat → Nat → List V → St → Hp → Prop, (∃ m, W 0 m [] (capSt nt cs σ) (upd H1 acc (.lst []))) ∧ ∀ i m ys σ' H', W i m ys σ' H' → H' acc = some (.lst ys) ∧
    ((J.stop i H' ∧ Q (.ref acc) H') ∨ (J.go i H' ∧ ys.length < sizeLine ∧ ∃ N : List V → St → Hp → Prop, (∀ zs σ2 H2, N zs σ2 H2 → ∃ m', m' < m ∧ W (i + 1) m' zs σ2 H2) ∧
      ∀ x H2, J.yld i H' x H2 → g x σ' H2 fun σ3 H3 => tt σ3 H3 fun b H4 => if b = true then te σ3 H4 fun y H5 => H5 acc = some (.lst ys) ∧ N (ys ++ [y]) σ3 (upd H5 acc (.lst (ys ++ [y]))) else N ys σ3 H4))
section
variable {K : PySem.W.Frag} {σ : St} {H : Hp} {Q : VK} {nt : Nat} {cs : List Nat} {g : TG} {tt : TT} {te : TE} {a : Addr}
theorem w_compL {tl : TE} : tComp (iList K tl) nt cs g tt te σ H Q = (tl σ H fun x H1 => ∃ a, x = .ref a ∧ (∃ xs, SqL K H1 a xs) ∧ CompIt (Itl K a) nt cs g tt te σ H1 Q) := rfl
theorem w_compT {tl : TE} : tComp (iTup K tl) nt cs g tt te σ H Q = (tl σ H fun x H1 => ∃ a, x = .ref a ∧ (∃ xs, SqT K H1 a xs) ∧ CompIt (Itt K a) nt cs g tt te σ H1 Q) := rfl
theorem w_comp1 {ta : TA} : tComp (iRng1 ta) nt cs g tt te σ H Q = (ta σ H fun vs H1 => ∃ j : Int, vs = [.int j] ∧ -(2 ^ 62) ≤ j ∧ j < 2 ^ 62 ∧ CompIt (Itr 0 j.toNat) nt cs g tt te σ H1 Q) := rfl
theorem w_yes {R : Bool → Hp → Prop} : tYes σ H R = R true H := rfl
def capV (cs : List Nat) (σ : St) : St := cs.map fun c => (σ[c]?).join
theorem Same.seqT {K : PySem.W.Frag} {H H' : Hp} {a : Addr} {xs : List V} (e : Same H H') (h : SqT K H a xs) : SqT K H' a xs := by
  rcases h with (h | ⟨o, h⟩) | h
  · exact .inl (.inl (e _ _ h))
  · exact .inl (.inr ⟨o, e _ _ h⟩)
  · exact .inr h
def rngV (lo : Int) (n : Nat) : List V := (List.range n).map fun (i : Nat) => V.int (lo + (i : Int))
end
end L2
set_option Elab.async false
set_option linter.all false
set_option maxRecDepth 100000
set_option maxHeartbeats 1000000
namespace L2
open PySem PySem.Spec PyProof.Rows
section
variable {X : Cx}
def rBits : V → List V → Hp → VK → Prop := fun x vs H Q => ∃ i, x = .int i ∧ vs = [] ∧ Q (.int (Builtin.Int.intBits i : Nat)) H
theorem w_rBits {i : Int} {H : Hp} {Q : VK} : rBits (.int i) [] H Q = Q (.int (Builtin.Int.intBits i : Nat)) H := propext ⟨fun ⟨j, e, _, q⟩ => by cases e; exact q, fun q => ⟨i, rfl, rfl, q⟩⟩
theorem w_tyInt {K : PySem.W.Frag} {i : Int} {H : Hp} : tyV K "int" (.int i) H = True := eq_true (by first | exact rfl | (unfold tyV; rfl) | (unfold tyV; simp))
end
section
variable {K : PySem.W.Frag} {σ : St} {H : Hp} {Q : VK}
theorem w_bm {T : String} {r : V → List V → Hp → VK → Prop} {to : TE} {t : TA} : tBM K T r to t σ H Q = (to σ H fun x H1 => tyV K T x H1 ∧ t σ H1 fun xs H2 => r x xs H2 Q) := rfl
theorem w_bm0 {T : String} {r : V → List V → Hp → VK → Prop} {to : TE} : tBM0 K T r to σ H Q = (to σ H fun x H1 => tyV K T x H1 ∧ r x [] H1 Q) := rfl
theorem w_append {l : Addr} {y : V} : rAppend (.ref l) [y] H Q = ∃ xs, H l = some (.lst xs) ∧ xs.length < sizeLine ∧ Q .non (upd H l (.lst (xs ++ [y]))) :=
  propext ⟨fun ⟨l', xs, y', e1, e2, h, z, q⟩ => by cases e1; cases e2; exact ⟨xs, h, z, q⟩, fun ⟨xs, h, z, q⟩ => ⟨l, xs, y, rfl, rfl, h, z, q⟩⟩
end
end L2
set_option Elab.async false
set_option linter.all false
set_option maxRecDepth 100000
namespace L2
open PySem PySem.Spec PyProof.Rows PySem.W
end L2
set_option Elab.async false
set_option linter.all false
set_option maxRecDepth 100000
namespace L2
open PySem PySem.Spec PyProof.Rows
def gTupM (n : Nat) (t : TGs) : TG := fun v σ H Q => ∃ a xs, v = .ref a ∧ H a = some (.tup xs) ∧ xs.length = n ∧ t xs σ H Q
section
variable {K : PySem.W.Frag} {σ : St} {H : Hp} {Q : VK} {R : St → Hp → Prop}
theorem w_gTupM {n : Nat} {t : TGs} {a : Addr} : gTupM n t (.ref a) σ H R = ∃ xs, H a = some (.tup xs) ∧ xs.length = n ∧ t xs σ H R :=
  propext ⟨fun ⟨a', xs, e, h, l, q⟩ => by cases e; exact ⟨xs, h, l, q⟩, fun ⟨xs, h, l, q⟩ => ⟨a, xs, rfl, h, l, q⟩⟩
theorem w_gCons {t : TG} {u : TGs} {v : V} {r : List V} : gCons t u (v :: r) σ H R = t v σ H fun σ' H' => u r σ' H' R :=
  propext ⟨fun ⟨v', r', e, q⟩ => by cases e; exact q, fun q => ⟨v, r, rfl, q⟩⟩
theorem w_gNil : gNil [] σ H R = R σ H := propext ⟨fun ⟨_, q⟩ => q, fun q => ⟨rfl, q⟩⟩
end
end L2
set_option Elab.async false
set_option linter.all false
set_option maxRecDepth 100000
namespace L2
open PySem PySem.Spec PyProof.Rows
def rDG : R2 := fun x y H Q => ∃ a k, x = .ref a ∧ y = kV k ∧ ∃ kvs, H a = some (.dK kvs) ∧ ∃ v, valV kvs k = some v ∧ Q v H
def rDP : V → V → V → Hp → (Hp → Prop) → Prop := fun x y v H R => ∃ a k, x = .ref a ∧ y = kV k ∧ ∃ kvs, H a = some (.dK kvs) ∧ kvs.length < sizeLine ∧ R (upd H a (.dK (putK kvs k v)))
def sDP (td ty tv : TE) : TS := fun D σ H => tv σ H fun v H1 => td σ H1 fun x H2 => ty σ H2 fun y H3 => rDP x y v H3 fun H4 => D.nx σ H4
def rDI (neg : Bool) : R2 := fun y x H Q => ∃ a k, x = .ref a ∧ y = kV k ∧ ∃ kvs, H a = some (.dK kvs) ∧ Q (.bl (if neg then !(valV kvs k).isSome else (valV kvs k).isSome)) H
section
variable {X : Cx} {o i e value : Expr} {pos pos' tpos : Pos} {td ty tv : TE}
end
section
variable {σ : St} {H : Hp} {Q : VK} {D : Ends} {a : Addr} {v : V} {R : Hp → Prop}
theorem kV_s {k : Key} {x : Str} : (V.str x = kV k) = (k = .inr x) := propext ⟨fun e => by cases k <;> cases e; rfl, fun e => by subst e; rfl⟩
theorem kV_i {k : Key} {x : Int} : (V.int x = kV k) = (k = .inl x) := propext ⟨fun e => by cases k <;> cases e; rfl, fun e => by subst e; rfl⟩
theorem w_dgS {x : Str} : rDG (.ref a) (.str x) H Q = ∃ kvs, H a = some (.dK kvs) ∧ ∃ v, valV kvs (.inr x) = some v ∧ Q v H :=
  propext ⟨fun ⟨a', k, e1, e2, q⟩ => by cases e1; rw [kV_s] at e2; subst e2; exact q, fun q => ⟨a, .inr x, rfl, rfl, q⟩⟩
theorem w_dgI {x : Int} : rDG (.ref a) (.int x) H Q = ∃ kvs, H a = some (.dK kvs) ∧ ∃ v, valV kvs (.inl x) = some v ∧ Q v H :=
  propext ⟨fun ⟨a', k, e1, e2, q⟩ => by cases e1; rw [kV_i] at e2; subst e2; exact q, fun q => ⟨a, .inl x, rfl, rfl, q⟩⟩
theorem w_sDP {td ty tv : TE} : sDP td ty tv D σ H = (tv σ H fun v H1 => td σ H1 fun x H2 => ty σ H2 fun y H3 => rDP x y v H3 fun H4 => D.nx σ H4) := rfl
theorem w_dpS {x : Str} : rDP (.ref a) (.str x) v H R = ∃ kvs, H a = some (.dK kvs) ∧ kvs.length < sizeLine ∧ R (upd H a (.dK (putK kvs (.inr x) v))) :=
  propext ⟨fun ⟨a', k, e1, e2, q⟩ => by cases e1; rw [kV_s] at e2; subst e2; exact q, fun q => ⟨a, .inr x, rfl, rfl, q⟩⟩
theorem w_dpI {x : Int} : rDP (.ref a) (.int x) v H R = ∃ kvs, H a = some (.dK kvs) ∧ kvs.length < sizeLine ∧ R (upd H a (.dK (putK kvs (.inl x) v))) :=
  propext ⟨fun ⟨a', k, e1, e2, q⟩ => by cases e1; rw [kV_i] at e2; subst e2; exact q, fun q => ⟨a, .inl x, rfl, rfl, q⟩⟩
theorem w_dII {neg : Bool} {x : Int} : rDI neg (.int x) (.ref a) H Q = ∃ kvs, H a = some (.dK kvs) ∧ Q (.bl (if neg then !(valV kvs (.inl x)).isSome else (valV kvs (.inl x)).isSome)) H :=
  propext ⟨fun ⟨a', k, e1, e2, q⟩ => by cases e1; rw [kV_i] at e2; subst e2; exact q, fun q => ⟨a, .inl x, rfl, rfl, q⟩⟩
theorem w_disp {trs : List (TE × TE)} : tDisp trs σ H Q = ∀ p, H p = none → tPairs trs σ (upd H p (.dK [])) fun ps H2 => H2 p = some (.dK []) ∧ ∃ kvs : List (Key × V), ps = kvs.map (fun kv => (kV kv.1, kv.2)) ∧ kvs.length ≤ 15 ∧ Q (.ref p) (upd H2 p (.dK (mergeK [] kvs))) := rfl
end
def penKV (a : Addr) (at_ l : Int) : List (Key × V) := [(.inr "script", .ref a), (.inr "at", .int at_), (.inr "left", .int l)]
theorem pen_s {a : Addr} {t l : Int} : valV (penKV a t l) (.inr "script") = some (.ref a) := by unfold penKV; rw [valV_pos rfl]
theorem key_sa : ¬ (Sum.inr "script" : Key) = (Sum.inr "at" : Key) := by decide
theorem key_sl : ¬ (Sum.inr "script" : Key) = (Sum.inr "left" : Key) := by decide
theorem key_al : ¬ (Sum.inr "at" : Key) = (Sum.inr "left" : Key) := by decide
theorem pen_a {a : Addr} {t l : Int} : valV (penKV a t l) (.inr "at") = some (.int t) := by unfold penKV; rw [valV_neg key_sa, valV_pos rfl]
theorem pen_l {a : Addr} {t l : Int} : valV (penKV a t l) (.inr "left") = some (.int l) := by unfold penKV; rw [valV_neg key_sl, valV_neg key_al, valV_pos rfl]
theorem pen_len {a : Addr} {t l : Int} : ((penKV a t l).length < sizeLine) = True := eq_true (Nat.lt_of_lt_of_le (by decide : 3 < 1000) (le_size (by decide)))
theorem pen_pa {a : Addr} {t l x : Int} : putK (penKV a t l) (.inr "at") (.int x) = penKV a x l := by
  unfold putK
  rw [valV_any, pen_a]
  rfl
theorem pen_pl {a : Addr} {t l x : Int} : putK (penKV a t l) (.inr "left") (.int x) = penKV a t x := by
  unfold putK
  rw [valV_any, pen_l]
  rfl
def Pen (H : Hp) (p a : Addr) (c : Int) : Prop := ∃ t l : Int, H p = some (.dK (penKV a t l)) ∧ 0 ≤ t ∧ t ≤ c ∧ 0 ≤ l
theorem Pen.mono {H : Hp} {p a : Addr} {c d : Int} (h : Pen H p a c) (l : c ≤ d) : Pen H p a d := by
  obtain ⟨t, x, e, h0, h1, h2⟩ := h
  exact ⟨t, x, e, h0, by omega, h2⟩
theorem Pen.same {H H' : Hp} {p a : Addr} {c : Int} (h : Pen H p a c) (s : Same H H') : Pen H' p a c := by
  obtain ⟨t, x, e, r⟩ := h
  exact ⟨t, x, s _ _ e, r⟩
theorem Pen.dK {H : Hp} {p a : Addr} {c : Int} (h : Pen H p a c) : ∃ kvs, H p = some (.dK kvs) := by
  obtain ⟨t, x, e, r⟩ := h
  exact ⟨_, e⟩
theorem Pen.ne {H : Hp} {p a q : Addr} {c : Int} (h : Pen H p a c) (hq : H q = none) : q ≠ p := by
  obtain ⟨xs, h⟩ := h.dK
  exact (ne_of_none h hq).symm
theorem Pen.new {H : Hp} {p a q : Addr} {c : Int} {o : HO} (h : Pen H p a c) (hq : H q = none) : Pen (upd H q o) p a c := h.same (same_new hq _)
end L2
set_option Elab.async false
set_option linter.all false
set_option maxRecDepth 100000
namespace L2
open PySem PySem.Spec PyProof.Rows
def Itv (K : PySem.W.Frag) (a : Addr) (n : Nat) : It :=
  ⟨fun i H => i < n ∧ ∃ xs, SqL K H a xs ∧ xs.length = n, fun i H x H' => H' = H ∧ ∀ xs, SqL K H a xs → xs.length = n → xs[n - 1 - i]? = some x, fun i H => i = n⟩
def iRev (K : PySem.W.Frag) (ta : TA) : TI := fun σ H R => ta σ H fun vs H1 => ∃ a xs, vs = [.ref a] ∧ SqL K H1 a xs ∧ R (Itv K a xs.length) H1
def ForV (K : PySem.W.Frag) (a : Addr) (n : Nat) (g : TG) (tb : TS) (D : Ends) (σ : St) (H : Hp) : Prop := ∃ W : Nat → Nat → St → Hp → Prop, (∃ m, W 0 m σ H) ∧ ∀ i m σ H, W i m σ H →
  ((Itv K a n).stop i H ∧ D.nx σ H) ∨ ((Itv K a n).go i H ∧ ∃ N : St → Hp → Prop, (∀ σ' H', N σ' H' → ∃ m', m' < m ∧ W (i + 1) m' σ' H') ∧ ∀ x H', (Itv K a n).yld i H x H' → g x σ H' fun σ2 H2 => tb { D with nx := N, ct := N, bk := D.nx } σ2 H2)
section
variable {σ : St} {H : Hp} {D : Ends} {g : TG} {tb : TS} {K : PySem.W.Frag} {a : Addr}
theorem w_forV {ta : TA} : tFor (iRev K ta) g tb D σ H = (ta σ H fun vs H1 => ∃ a xs, vs = [.ref a] ∧ SqL K H1 a xs ∧ ForV K a xs.length g tb D σ H1) := rfl
end
end L2
set_option Elab.async false
set_option linter.all false
set_option maxRecDepth 100000
namespace L2
open PySem
def fs (n : Int) : Int := if n % 2 = 0 then 0 else 2 - n % 4
def nafF : Nat → Int → List Int
  | 0, _ => []
  | k + 1, n => if n = 0 then [] else fs n :: nafF k ((n - fs n) / 2)
def naf (n : Int) : List Int := nafF n.natAbs n
def val : List Int → Int
  | [] => 0
  | d :: r => d + 2 * val r
end L2
set_option Elab.async false
set_option linter.all false
set_option maxRecDepth 100000
namespace L2
open PySem PySem.Spec PyProof.Rows
def wt (ds : List Int) : Nat := (ds.filter fun d => decide (d ≠ 0)).length
end L2
set_option Elab.async false
set_option linter.all false
set_option maxRecDepth 100000
namespace L2
open PySem
def On2 (vs : List V) (P : Int → Int → Prop) : Prop := ∃ i j, vs = [.int i, .int j] ∧ P i j
theorem w_On2 {i j : Int} {P : Int → Int → Prop} : On2 [.int i, .int j] P = P i j := propext ⟨fun ⟨i', j', e, q⟩ => by cases e; exact q, fun q => ⟨i, j, rfl, q⟩⟩
section
variable {σ : St} {H : Hp} {D : Ends} {g : TG} {tb : TS} {K : PySem.W.Frag} {Q : VK} {nt : Nat} {cs : List Nat} {tt : TT} {te : TE}
theorem w_for2b {ta : TA} : tFor (iRng2 ta) g tb D σ H = (ta σ H fun vs H1 => On2 vs fun i j => (-(2 ^ 62) ≤ i ∧ i < 2 ^ 62 ∧ -(2 ^ 62) ≤ j ∧ j < 2 ^ 62) ∧ ForR i (j - i).toNat g tb D σ H1) := rfl
theorem w_comp2b {ta : TA} : tComp (iRng2 ta) nt cs g tt te σ H Q = (ta σ H fun vs H1 => On2 vs fun i j => (-(2 ^ 62) ≤ i ∧ i < 2 ^ 62 ∧ -(2 ^ 62) ≤ j ∧ j < 2 ^ 62) ∧ CompIt (Itr i (j - i).toNat) nt cs g tt te σ H1 Q) := rfl
end
end L2
set_option Elab.async false
set_option linter.all false
set_option maxRecDepth 100000
namespace L2
open PySem
abbrev wn (n : Int) : Nat := wt (naf n)
theorem w_neB {a b : Bool} {H : Hp} {Q : VK} : rNe (.bl a) (.bl b) H Q = Q (.bl (!decide (a = b))) H :=
  propext (by
    have e : decide (V.bl a = V.bl b) = decide (a = b) := by by_cases h : a = b <;> simp [h]
    unfold rNe; rw [e]; exact ⟨fun h => h.2, fun h => ⟨rfl, h⟩⟩)
theorem w_eqB {a b : Bool} {H : Hp} {Q : VK} : rEq (.bl a) (.bl b) H Q = Q (.bl (decide (a = b))) H :=
  propext (by
    have e : decide (V.bl a = V.bl b) = decide (a = b) := by by_cases h : a = b <;> simp [h]
    unfold rEq; rw [e]; exact ⟨fun h => h.2, fun h => ⟨rfl, h⟩⟩)
end L2
set_option Elab.async false
set_option linter.all false
set_option maxRecDepth 100000
namespace L2
open PySem
abbrev SS := List (Int × Int) × List Int
def stp (m : Int) (s : SS) (o : Int) : SS := if (s.1.lookup o).isSome = false ∧ (if o < 0 then -o else o) < 200 then (s.1 ++ [(o, m)], s.2 ++ [o]) else s
def kin (m n : Int) (s : SS) (k : Nat) : SS := stp m (stp m s (n + 1 * 2 ^ k)) (n - 1 * 2 ^ k)
theorem lk_app {l : List (Int × Int)} {o m n : Int} : (l ++ [(o, m)]).lookup n = (l.lookup n).or (if n = o then some m else none) := by
  rw [List.lookup_append, List.lookup_cons]
  by_cases h : n = o
  · subst h; simp
  · have : (n == o) = false := by simpa using h
    rw [this, if_neg h]
    rfl
end L2
set_option Elab.async false
set_option linter.all false
set_option maxRecDepth 100000
set_option maxHeartbeats 1000000
namespace L2
open PySem PySem.Spec PyProof.Rows
section
variable {prog : Program} {w : World} {A : Around} {R : Result → Shared → Prop} {I S : Addr} {fp wr : List Addr} {n : Nat} {P : Nat → Value → Prop} {St : Nat → Heap → Prop} {bt : Nat → Nat → Bool} {d : Value}
end
section
variable {prog : Program} {w : World} {A : Around} {E : Value → Shared → Prop} {s : Shared} {d x : Value}
end
def mz : List Int → Int
  | [] => 0
  | x :: r => if mz r < x then x else mz r
section
variable {X : Cx} {e : Expr} {es : List Expr} {kws : List Keyword} {t tk : TA} {p pos : Pos}
def tMaxD (t tk : TA) : TE := fun σ H Q => t σ H fun vs H1 => tk σ H1 fun zs H2 => ∃ (p : Addr) (ns : List Int), vs = [.ref p] ∧ zs = [.int 0] ∧ H2 p = some (.lst (ns.map V.int)) ∧ (∀ n ∈ ns, 0 ≤ n) ∧ Q (.int (mz ns)) H2
end
section
variable {K : PySem.W.Frag} {σ : St} {H : Hp} {Q : VK}
theorem w_maxD {t tk : TA} : tMaxD t tk σ H Q = t σ H fun vs H1 => tk σ H1 fun zs H2 => ∃ (p : Addr) (ns : List Int), vs = [.ref p] ∧ zs = [.int 0] ∧ H2 p = some (.lst (ns.map V.int)) ∧ (∀ n ∈ ns, 0 ≤ n) ∧ Q (.int (mz ns)) H2 := rfl
theorem w_sl {r : V → Option Int → Option Int → Hp → VK → Prop} {te : TE} {tl th : TO} : tSl r te tl th σ H Q = te σ H fun x H1 => tl σ H1 fun l H2 => th σ H2 fun u H3 => r x l u H3 Q := rfl
theorem w_noPart {R : Option Int → Hp → Prop} : tNoPart σ H R = R none H := rfl
theorem w_part {t : TE} {R : Option Int → Hp → Prop} : tPart t σ H R = t σ H fun x H1 => ∃ i, x = .int i ∧ R (some i) H1 := rfl
theorem w_slL {a : Addr} {lo hi : Option Int} : rSlL K (.ref a) lo hi H Q = ∃ xs, SqL K H a xs ∧ ∀ p, H p = none → Q (.ref p) (upd H p (.lst (cutV xs lo hi))) :=
  propext ⟨fun ⟨a', xs, e, h, q⟩ => by cases e; exact ⟨xs, h, q⟩, fun ⟨xs, h, q⟩ => ⟨a, xs, rfl, h, q⟩⟩
end
def halN (c : Int) : Nat := if c > 1 then Builtin.Int.intBits (c - 1) else 0
def ld (ns : List Int) : Int := mz (ns.map fun n => ((halN (wn n : Nat) : Nat) : Int))
end L2
set_option Elab.async false
set_option linter.all false
set_option maxRecDepth 100000
set_option maxHeartbeats 1000000
namespace L2
open PySem PySem.Spec PyProof.Rows
section
variable {σ : St} {H : Hp} {Q : VK} {D : Ends}
theorem w_aug {i : Nat} {te : TE} {ti : TIp} : tAug i te ti D σ H = ∃ x, σ[i]? = some (some x) ∧ te σ H fun y H1 => ti x y H1 fun z H2 => D.nx (σ.set i (some z)) H2 := rfl
theorem w_ipI {f : Int → Int → Int} {i j : Int} : ipI f (.int i) (.int j) H Q = Q (.int (f i j)) H := propext ⟨fun ⟨_, _, e1, e2, q⟩ => by cases e1; cases e2; exact q, fun q => ⟨i, j, rfl, rfl, q⟩⟩
theorem w_dnK : tDNewK σ H Q = ∀ p, H p = none → Q (.ref p) (upd H p (.dK [])) := rfl
end
structure Dd where
  g : Int
  a : Nat
  s : Nat
  b : Nat
  t : Nat
def dnum (ns : List Int) (d : Dd) : Int := ns.getD d.a 0 * 2 ^ d.s + d.g * (ns.getD d.b 0 * 2 ^ d.t)
def ev (ds : List Dd) : List Int := ds.foldl (fun ns d => ns ++ [dnum ns d]) [1]
theorem ev_snoc (ds : List Dd) (d : Dd) : ev (ds ++ [d]) = ev ds ++ [dnum (ev ds) d] := by unfold ev; rw [List.foldl_append]; rfl
theorem snoc_ind {α : Type} {p : List α → Prop} (h0 : p []) (hs : ∀ xs x, p xs → p (xs ++ [x])) (xs : List α) : p xs := by
  have : p xs.reverse.reverse := by
    generalize xs.reverse = ys
    induction ys with
    | nil => exact h0
    | cons y r ih => rw [List.reverse_cons]; exact hs _ _ ih
  rwa [List.reverse_reverse] at this
theorem ev_pre (ds new : List Dd) {k : Nat} {n : Int} (h : (ev ds)[k]? = some n) : (ev (ds ++ new))[k]? = some n := by
  refine snoc_ind (p := fun new => (ev (ds ++ new))[k]? = some n) (by rw [List.append_nil]; exact h) (fun xs x ih => ?_) new
  rw [← List.append_assoc, ev_snoc, List.getElem?_append_left (List.getElem?_eq_some_iff.mp ih).1]
  exact ih
structure DOk (ds : List Dd) : Prop where
  at_ : ∀ (k : Nat) (d : Dd), ds[k]? = some d → d.a ≤ k ∧ d.b ≤ k ∧ d.s ≤ 300 ∧ d.t ≤ 300 ∧ (d.g = 1 ∨ d.g = -1)
  big : ∀ n ∈ ev ds, n.natAbs < 2 ^ 300
theorem DOk.snoc {ds : List Dd} {d : Dd} (h : DOk ds) (h1 : d.a ≤ ds.length) (h1' : d.b ≤ ds.length) (h2 : d.s ≤ 300) (h2' : d.t ≤ 300) (h3 : d.g = 1 ∨ d.g = -1) (h4 : (dnum (ev ds) d).natAbs < 2 ^ 300) : DOk (ds ++ [d]) := by
  refine ⟨fun k e he => ?_, fun n hn => ?_⟩
  · by_cases hk : k < ds.length
    · rw [List.getElem?_append_left hk] at he
      exact h.at_ k e he
    · rw [List.getElem?_append_right (by omega)] at he
      have hk0 : k - ds.length = 0 := by
        cases hz : k - ds.length with
        | zero => rfl
        | succ j => rw [hz] at he; simp at he
      rw [hk0] at he
      cases he
      exact ⟨by omega, by omega, h2, h2', h3⟩
  · rw [ev_snoc] at hn
    rcases List.mem_append.mp hn with z | z
    · exact h.big n z
    · rw [List.mem_singleton.mp z]; exact h4
def wordOf (g : Int) : Str := if g = 1 then "sum" else "less"
def dTup (d : Dd) : List V := [.str (wordOf d.g), .int d.a, .int d.s, .int d.b, .int d.t]
structure HDs (H : Hp) (vs : List V) (ds : List Dd) : Prop where
  len : vs.length = ds.length
  at_ : ∀ (k : Nat) (d : Dd), ds[k]? = some d → ∃ x : Addr, vs[k]? = some (.ref x) ∧ H x = some (.tup (dTup d))
theorem HDs.same {H H' : Hp} {vs : List V} {ds : List Dd} (h : HDs H vs ds) (s : Same H H') : HDs H' vs ds := ⟨h.len, fun k d e => by
  obtain ⟨x, e1, e2⟩ := h.at_ k d e
  exact ⟨x, e1, s _ _ e2⟩⟩
theorem HDs.chgL {H H' : Hp} {vs us : List V} {ds : List Dd} {l : Addr} (h : HDs H vs ds) (hl : H l = some (.lst us)) (c : Chg l H H') : HDs H' vs ds := ⟨h.len, fun k d e => by
  obtain ⟨x, e1, e2⟩ := h.at_ k d e
  exact ⟨x, e1, c _ _ (ne_of e2 hl (by intro z; cases z)) e2⟩⟩
theorem HDs.snoc {H : Hp} {vs : List V} {ds : List Dd} {d : Dd} {x : Addr} (h : HDs H vs ds) (hx : H x = some (.tup (dTup d))) : HDs H (vs ++ [.ref x]) (ds ++ [d]) := by
  refine ⟨by simp [h.len], fun k e he => ?_⟩
  by_cases hk : k < ds.length
  · rw [List.getElem?_append_left hk] at he
    obtain ⟨y, e1, e2⟩ := h.at_ k e he
    exact ⟨y, by rw [List.getElem?_append_left (by rw [h.len]; exact hk)]; exact e1, e2⟩
  · rw [List.getElem?_append_right (by omega)] at he
    have hk0 : k - ds.length = 0 := by
      cases hz : k - ds.length with
      | zero => rfl
      | succ j => rw [hz] at he; simp at he
    rw [hk0] at he
    cases he
    refine ⟨x, ?_, hx⟩
    rw [List.getElem?_append_right (by rw [h.len]; omega), h.len, hk0]
    rfl
def CT0 (K : PySem.W.Frag) (t : Addr) : Prop := ∃ (o : Obj) (its : Array Value) (n : Nat), K.lookup t = some o ∧ o.cls = .type "tuple" ∧ o.data = .seq its n ∧ its.size ≤ sizeLine ∧ Vals [.int 0, .int 0, .int 0] its.toList
theorem CT0.sq {K : PySem.W.Frag} {t : Addr} (h : CT0 K t) (H : Hp) : SqT K H t [.int 0, .int 0, .int 0] := .inr h
structure OutOk (ns : List Int) (n : Int) (a b c : Int) : Prop where
  ok : (n = 0 ∧ a = 0 ∧ b = 0 ∧ c = 0) ∨ (n ≠ 0 ∧ ∃ (k j : Nat) (m : Int), a = k ∧ b = j ∧ j ≤ 300 ∧ (c = 1 ∨ c = -1) ∧ ns[k]? = some m ∧ m * 2 ^ j * c = n)
structure HOs (K : PySem.W.Frag) (H : Hp) (os : List V) (ns xs : List Int) : Prop where
  len : os.length = xs.length
  at_ : ∀ (k : Nat) (n : Int), xs[k]? = some n → ∃ (x : Addr) (a b c : Int), os[k]? = some (.ref x) ∧ SqT K H x [.int a, .int b, .int c] ∧ OutOk ns n a b c
theorem HOs.same {K : PySem.W.Frag} {H H' : Hp} {os : List V} {ns xs : List Int} (h : HOs K H os ns xs) (s : Same H H') : HOs K H' os ns xs := ⟨h.len, fun k n e => by
  obtain ⟨x, a, b, c, e1, e2, e3⟩ := h.at_ k n e
  exact ⟨x, a, b, c, e1, s.seqT e2, e3⟩⟩
theorem HOs.snoc {K : PySem.W.Frag} {H : Hp} {os : List V} {ns xs : List Int} {n a b c : Int} {x : Addr} (h : HOs K H os ns xs) (hx : SqT K H x [.int a, .int b, .int c]) (ho : OutOk ns n a b c) : HOs K H (os ++ [.ref x]) ns (xs ++ [n]) := by
  refine ⟨by simp [h.len], fun k e he => ?_⟩
  by_cases hk : k < xs.length
  · rw [List.getElem?_append_left hk] at he
    obtain ⟨y, a', b', c', e1, e2⟩ := h.at_ k e he
    exact ⟨y, a', b', c', by rw [List.getElem?_append_left (by rw [h.len]; exact hk)]; exact e1, e2⟩
  · rw [List.getElem?_append_right (by omega)] at he
    have hk0 : k - xs.length = 0 := by
      cases hz : k - xs.length with
      | zero => rfl
      | succ j => rw [hz] at he; simp at he
    rw [hk0] at he
    cases he
    refine ⟨x, a, b, c, ?_, hx, ho⟩
    rw [List.getElem?_append_right (by rw [h.len]; omega), h.len, hk0]
    rfl
structure Row (K : PySem.W.Frag) (H : Hp) (t dl ol : Addr) (ds : List Dd) (xs : List Int) : Prop where
  tup : H t = some (.tup [.int 1, .ref dl, .ref ol])
  dls : ∃ us, H dl = some (.lst us) ∧ HDs H us ds
  ols : ∃ os, H ol = some (.lst os) ∧ HOs K H os (ev ds) xs
  ok : DOk ds
  ap : ol ≠ dl
theorem Row.same {K : PySem.W.Frag} {H H' : Hp} {t dl ol : Addr} {ds : List Dd} {xs : List Int} (h : Row K H t dl ol ds xs) (s : Same H H') : Row K H' t dl ol ds xs := by
  obtain ⟨us, h1, h2⟩ := h.dls
  obtain ⟨os, h3, h4⟩ := h.ols
  exact ⟨s _ _ h.tup, ⟨us, s _ _ h1, h2.same s⟩, ⟨os, s _ _ h3, h4.same s⟩, h.ok, h.ap⟩
section
variable {X : Cx}
end
section
variable {K : PySem.W.Frag} {H : Hp} {Q : VK}
theorem w_ixT {p : Addr} {i : Int} : rIxT K (.ref p) (.int i) H Q = ∃ xs, SqT K H p xs ∧ ∃ v, atI xs i = some v ∧ Q v H :=
  propext ⟨fun ⟨p', xs, i', v, e1, e2, h, a, q⟩ => by cases e1; cases e2; exact ⟨xs, h, v, a, q⟩, fun ⟨xs, h, v, a, q⟩ => ⟨p, xs, i, v, rfl, rfl, h, a, q⟩⟩
theorem w_eqS {x y : Str} : rEq (.str x) (.str y) H Q = Q (.bl (decide (x = y))) H :=
  propext (by
    have e : decide (V.str x = V.str y) = decide (x = y) := by by_cases h : x = y <;> simp [h]
    unfold rEq
    rw [e]
    exact ⟨fun h => h.2, fun h => ⟨rfl, h⟩⟩)
end
end L2
set_option Elab.async false
set_option linter.all false
set_option maxRecDepth 100000
set_option maxHeartbeats 1000000
namespace L2
open PySem PySem.Spec PyProof.Rows
def Itz (K : PySem.W.Frag) (a b : Addr) : It :=
  ⟨fun i H => ∃ xs ys, SqL K H a xs ∧ SqL K H b ys ∧ i < xs.length ∧ i < ys.length,
   fun i H x H' => ∃ T u v, x = .ref T ∧ H T = none ∧ H' = upd H T (.tup [u, v]) ∧ (∀ xs, SqL K H a xs → xs[i]? = some u) ∧ (∀ ys, SqL K H b ys → ys[i]? = some v),
   fun i H => ∃ xs ys, SqL K H a xs ∧ SqL K H b ys ∧ (xs.length ≤ i ∨ ys.length ≤ i)⟩
def iZip (K : PySem.W.Frag) (ta : TA) : TI := fun σ H R => ta σ H fun vs H1 => ∃ a b xs ys, vs = [.ref a, .ref b] ∧ SqL K H1 a xs ∧ SqL K H1 b ys ∧ R (Itz K a b) H1
end L2
set_option Elab.async false
set_option linter.all false
set_option maxRecDepth 100000
set_option maxHeartbeats 1000000
namespace L2
open PySem PySem.Spec PyProof.Rows
def Ite (K : PySem.W.Frag) (a : Addr) : It :=
  ⟨fun i H => ∃ xs, SqL K H a xs ∧ i < xs.length,
   fun i H x H' => ∃ T u, x = .ref T ∧ H T = none ∧ H' = upd H T (.tup [.int (i : Int), u]) ∧ (∀ xs, SqL K H a xs → xs[i]? = some u),
   fun i H => ∃ xs, SqL K H a xs ∧ xs.length ≤ i⟩
def iEnum (K : PySem.W.Frag) (ta : TA) : TI := fun σ H R => ta σ H fun vs H1 => ∃ a xs, vs = [.ref a] ∧ SqL K H1 a xs ∧ R (Ite K a) H1
section
variable {K : PySem.W.Frag} {σ : St} {H : Hp} {Q : VK}
theorem comp_any {J : It} {nt : Nat} {cs : List Nat} {g : TG} {tt : TT} {te : TE} (n : Nat) (Pv : Addr → Nat → List V → Hp → Prop) (hz : n ≤ sizeLine)
    (hgo : ∀ acc i ys H', i < n → Pv acc i ys H' → J.go i H') (hst : ∀ acc ys H', Pv acc n ys H' → J.stop n H')
    (h0 : ∀ acc, H acc = none → Pv acc 0 [] (upd H acc (.lst []))) (hacc : ∀ acc i ys H', Pv acc i ys H' → H' acc = some (.lst ys) ∧ ys.length ≤ i)
    (hs : ∀ acc i ys H' (ts : St) x H2 (N : List V → St → Hp → Prop), H acc = none → i < n → Pv acc i ys H' → J.yld i H' x H2 → ts.length = nt → (∀ zs (ts' : St) H3, ts'.length = nt → Pv acc (i + 1) zs H3 → N zs (ts' ++ capV cs σ) H3) →
      g x (ts ++ capV cs σ) H2 fun σ3 H3 => tt σ3 H3 fun b H4 => if b = true then te σ3 H4 fun y H5 => H5 acc = some (.lst ys) ∧ N (ys ++ [y]) σ3 (upd H5 acc (.lst (ys ++ [y]))) else N ys σ3 H4)
    (hd : ∀ acc ys H', H acc = none → Pv acc n ys H' → Q (.ref acc) H') : CompIt J nt cs g tt te σ H Q := by
  intro acc hn
  refine ⟨fun i m ys σ' H' => m = n - i ∧ i ≤ n ∧ (∃ ts : St, ts.length = nt ∧ σ' = ts ++ capV cs σ) ∧ Pv acc i ys H', ⟨_, rfl, Nat.zero_le _, ⟨List.replicate nt none, List.length_replicate, rfl⟩, h0 acc hn⟩, ?_⟩
  rintro i m ys σ' H' ⟨rfl, hi, ⟨ts, hts, rfl⟩, p⟩
  obtain ⟨ha, hl⟩ := hacc acc i ys H' p
  refine ⟨ha, ?_⟩
  by_cases hlt : i < n
  · refine .inr ⟨hgo acc i ys H' hlt p, by omega, fun zs σ2 H2 => (∃ ts : St, ts.length = nt ∧ σ2 = ts ++ capV cs σ) ∧ Pv acc (i + 1) zs H2, fun zs σ2 H2 ⟨q1, q2⟩ => ⟨n - (i + 1), by omega, rfl, hlt, q1, q2⟩, fun x H2 y => ?_⟩
    exact hs acc i ys H' ts x H2 (fun zs σ2 H2 => (∃ ts : St, ts.length = nt ∧ σ2 = ts ++ capV cs σ) ∧ Pv acc (i + 1) zs H2) hn hlt p y hts fun zs ts' H3 h1 h2 => ⟨⟨ts', h1, rfl⟩, h2⟩
  · have e : i = n := by omega
    subst e
    exact .inl ⟨hst acc ys H' p, hd acc ys H' hn p⟩
theorem w_compE {ta : TA} {nt : Nat} {cs : List Nat} {g : TG} {tt : TT} {te : TE} : tComp (iEnum K ta) nt cs g tt te σ H Q = (ta σ H fun vs H1 => ∃ a xs, vs = [.ref a] ∧ SqL K H1 a xs ∧ CompIt (Ite K a) nt cs g tt te σ H1 Q) := rfl
theorem w_compZ {ta : TA} {nt : Nat} {cs : List Nat} {g : TG} {tt : TT} {te : TE} : tComp (iZip K ta) nt cs g tt te σ H Q = (ta σ H fun vs H1 => ∃ a b xs ys, vs = [.ref a, .ref b] ∧ SqL K H1 a xs ∧ SqL K H1 b ys ∧ CompIt (Itz K a b) nt cs g tt te σ H1 Q) := rfl
end
def Itr3 (lo c : Int) (n : Nat) : It := ⟨fun i _ => i < n, fun i H x H' => H' = H ∧ x = .int (lo + i * c), fun i _ => n ≤ i⟩
def stepN (lo hi c : Int) : Nat := (Builtin.Range.rangeSize lo hi c).toNat
def iRng3 (ta : TA) : TI := fun σ H R => ta σ H fun vs H1 => ∃ i j c : Int, vs = [.int i, .int j, .int c] ∧ (0 ≤ i ∧ i < 2 ^ 31 ∧ -1 ≤ j ∧ j < 2 ^ 31 ∧ c = 2) ∧ R (Itr3 i c (stepN i j c)) H1
def ForR3 (lo c : Int) (n : Nat) (g : TG) (tb : TS) (D : Ends) (σ : St) (H : Hp) : Prop := ∃ W : Nat → Nat → St → Hp → Prop, (∃ m, W 0 m σ H) ∧ ∀ i m σ H, W i m σ H →
  ((Itr3 lo c n).stop i H ∧ D.nx σ H) ∨ ((Itr3 lo c n).go i H ∧ ∃ N : St → Hp → Prop, (∀ σ' H', N σ' H' → ∃ m', m' < m ∧ W (i + 1) m' σ' H') ∧ ∀ x H', (Itr3 lo c n).yld i H x H' → g x σ H' fun σ2 H2 => tb { D with nx := N, ct := N, bk := D.nx } σ2 H2)
section
variable {σ : St} {H : Hp} {D : Ends} {g : TG} {tb : TS} {lo c : Int} {n : Nat}
theorem w_for3 {ta : TA} : tFor (iRng3 ta) g tb D σ H = (ta σ H fun vs H1 => ∃ i j c : Int, vs = [.int i, .int j, .int c] ∧ (0 ≤ i ∧ i < 2 ^ 31 ∧ -1 ≤ j ∧ j < 2 ^ 31 ∧ c = 2) ∧ ForR3 i c (stepN i j c) g tb D σ H1) := rfl
end
end L2
set_option Elab.async false
set_option linter.all false
set_option maxRecDepth 100000
set_option maxHeartbeats 1000000
namespace L2
open PySem PySem.Spec
structure Pt where
  th : Nat
  sh : Nat
  g : Int
def dpt (ds : List Dd) : List Nat := ds.foldl (fun ps d => ps ++ [1 + max (ps.getD d.a 0) (ps.getD d.b 0)]) [0]
theorem dpt_snoc (ds : List Dd) (d : Dd) : dpt (ds ++ [d]) = dpt ds ++ [1 + max ((dpt ds).getD d.a 0) ((dpt ds).getD d.b 0)] := by unfold dpt; rw [List.foldl_append]; rfl
theorem dpt_pre (ds new : List Dd) {k : Nat} {n : Nat} (h : (dpt ds)[k]? = some n) : (dpt (ds ++ new))[k]? = some n := by
  refine snoc_ind (p := fun new => (dpt (ds ++ new))[k]? = some n) (by rw [List.append_nil]; exact h) (fun xs x ih => ?_) new
  rw [← List.append_assoc, dpt_snoc, List.getElem?_append_left (List.getElem?_eq_some_iff.mp ih).1]
  exact ih
def PtOk (ds : List Dd) (j : Nat) (p : Pt) : Prop := (p.g = 1 ∨ p.g = -1) ∧ p.sh ≤ 200 ∧ ∃ (n : Int) (e : Nat), (ev ds)[p.th]? = some n ∧ (dpt ds)[p.th]? = some e ∧ e ≤ j ∧ n.natAbs * 2 ^ p.sh ≤ 2 ^ (201 + j)
theorem PtOk.pre {ds new : List Dd} {j k : Nat} {p : Pt} (h : PtOk ds j p) (hk : j ≤ k) : PtOk (ds ++ new) k p := by
  obtain ⟨h1, h2, n, e, h3, h4, h5, h6⟩ := h
  exact ⟨h1, h2, n, e, ev_pre ds new h3, dpt_pre ds new h4, by omega, Nat.le_trans h6 (Nat.pow_le_pow_right (by decide) (by omega))⟩
theorem get_snoc {α : Type} {xs : List α} {x y : α} {i : Nat} (h : (xs ++ [x])[i]? = some y) : (i < xs.length ∧ xs[i]? = some y) ∨ (i = xs.length ∧ y = x) := by
  by_cases hi : i < xs.length
  · rw [List.getElem?_append_left hi] at h
    exact .inl ⟨hi, h⟩
  · rw [List.getElem?_append_right (by omega)] at h
    have hz : i - xs.length = 0 := by
      cases hk : i - xs.length with
      | zero => rfl
      | succ m => rw [hk] at h; simp at h
    rw [hz] at h
    cases h
    exact .inr ⟨by omega, rfl⟩
end L2
set_option Elab.async false
set_option linter.all false
set_option maxRecDepth 100000
set_option maxHeartbeats 1000000
namespace L2
open PySem PySem.Spec PyProof.Rows
def pTup (p : Pt) : List V := [.int p.th, .int p.sh, .int p.g]
structure HPs (H : Hp) (vs : List V) (ps : List Pt) : Prop where
  len : vs.length = ps.length
  at_ : ∀ (k : Nat) (p : Pt), ps[k]? = some p → ∃ x : Addr, vs[k]? = some (.ref x) ∧ H x = some (.tup (pTup p))
theorem HPs.same {H H' : Hp} {vs : List V} {ps : List Pt} (h : HPs H vs ps) (s : Same H H') : HPs H' vs ps := ⟨h.len, fun k d e => by
  obtain ⟨x, e1, e2⟩ := h.at_ k d e
  exact ⟨x, e1, s _ _ e2⟩⟩
theorem HPs.chgL {H H' : Hp} {vs us : List V} {ps : List Pt} {l : Addr} (h : HPs H vs ps) (hl : H l = some (.lst us)) (c : Chg l H H') : HPs H' vs ps := ⟨h.len, fun k d e => by
  obtain ⟨x, e1, e2⟩ := h.at_ k d e
  exact ⟨x, e1, c _ _ (ne_of e2 hl (by intro z; cases z)) e2⟩⟩
theorem HPs.snoc {H : Hp} {vs : List V} {ps : List Pt} {p : Pt} {x : Addr} (h : HPs H vs ps) (hx : H x = some (.tup (pTup p))) : HPs H (vs ++ [.ref x]) (ps ++ [p]) := by
  refine ⟨by simp [h.len], fun k e he => ?_⟩
  rcases get_snoc he with ⟨hk, z⟩ | ⟨hk, rfl⟩
  · obtain ⟨y, e1, e2⟩ := h.at_ k e z
    exact ⟨y, by rw [List.getElem?_append_left (by rw [h.len]; exact hk)]; exact e1, e2⟩
  · refine ⟨x, ?_, hx⟩
    rw [List.getElem?_append_right (by rw [h.len]; omega), h.len, hk, Nat.sub_self]
    rfl
structure HOd (K : PySem.W.Frag) (H : Hp) (os : List V) (ns : List Int) (es : List Nat) (xs : List Int) : Prop where
  len : os.length = xs.length
  at_ : ∀ (k : Nat) (n : Int), xs[k]? = some n → ∃ (x : Addr) (a b c : Int), os[k]? = some (.ref x) ∧ SqT K H x [.int a, .int b, .int c] ∧ OutOk ns n a b c ∧ (n ≠ 0 → ∃ i : Nat, a = i ∧ es[i]? = some (halN (wn n : Nat)))
theorem HOd.same {K : PySem.W.Frag} {H H' : Hp} {os : List V} {ns : List Int} {es : List Nat} {xs : List Int} (h : HOd K H os ns es xs) (s : Same H H') : HOd K H' os ns es xs := ⟨h.len, fun k n e => by
  obtain ⟨x, a, b, c, e1, e2, e3⟩ := h.at_ k n e
  exact ⟨x, a, b, c, e1, s.seqT e2, e3⟩⟩
theorem HOd.snoc {K : PySem.W.Frag} {H : Hp} {os : List V} {ns : List Int} {es : List Nat} {xs : List Int} {n a b c : Int} {x : Addr} (h : HOd K H os ns es xs) (hx : SqT K H x [.int a, .int b, .int c]) (ho : OutOk ns n a b c) (hd : n ≠ 0 → ∃ i : Nat, a = i ∧ es[i]? = some (halN (wn n : Nat))) : HOd K H (os ++ [.ref x]) ns es (xs ++ [n]) := by
  refine ⟨by simp [h.len], fun k e he => ?_⟩
  rcases get_snoc he with ⟨hk, z⟩ | ⟨hk, rfl⟩
  · obtain ⟨y, a', b', c', e1, e2⟩ := h.at_ k e z
    exact ⟨y, a', b', c', by rw [List.getElem?_append_left (by rw [h.len]; exact hk)]; exact e1, e2⟩
  · refine ⟨x, a, b, c, ?_, hx, ho, hd⟩
    rw [List.getElem?_append_right (by rw [h.len]; omega), h.len, hk, Nat.sub_self]
    rfl
def DpO (K : PySem.W.Frag) (H : Hp) (ol : Addr) (ds : List Dd) (xs : List Int) : Prop := ∃ os, H ol = some (.lst os) ∧ HOd K H os (ev ds) (dpt ds) xs
theorem DpO.same {K : PySem.W.Frag} {H H' : Hp} {ol : Addr} {ds : List Dd} {xs : List Int} (h : DpO K H ol ds xs) (s : Same H H') : DpO K H' ol ds xs := by
  obtain ⟨os, h1, h2⟩ := h
  exact ⟨os, s _ _ h1, h2.same s⟩
def gTupK (K : PySem.W.Frag) (n : Nat) (t : TGs) : TG := gTup K n t
section
variable {K : PySem.W.Frag} {σ : St} {H : Hp} {R : St → Hp → Prop}
theorem w_gTupK {n : Nat} {t : TGs} {a : Addr} : gTupK K n t (.ref a) σ H R = ∃ xs, SqT K H a xs ∧ xs.length = n ∧ t xs σ H R :=
  propext ⟨fun ⟨a', xs, e, h, l, q⟩ => by cases e; exact ⟨xs, h, l, q⟩, fun ⟨xs, h, l, q⟩ => ⟨a, xs, rfl, h, l, q⟩⟩
end
end L2
set_option Elab.async false
set_option linter.all false
set_option maxRecDepth 100000
set_option maxHeartbeats 1000000
namespace L2
open PySem PySem.Spec PyProof.Rows
section
variable {X : Cx} {pins : List (Addr × Obj)} {σ : St} {H : Hp} {s : Shared} {p : Addr} {xs : List V}
def gLst (n : Nat) (t : TGs) : TG := fun v σ H Q => ∃ a xs, v = .ref a ∧ H a = some (.lst xs) ∧ xs.length = n ∧ t xs σ H Q
end
section
variable {σ : St} {H : Hp} {R : St → Hp → Prop}
theorem w_gLst {n : Nat} {t : TGs} {a : Addr} : gLst n t (.ref a) σ H R = ∃ xs, H a = some (.lst xs) ∧ xs.length = n ∧ t xs σ H R :=
  propext ⟨fun ⟨a', xs, e, h, l, q⟩ => by cases e; exact ⟨xs, h, l, q⟩, fun ⟨xs, h, l, q⟩ => ⟨a, xs, rfl, h, l, q⟩⟩
end
def ForE (K : PySem.W.Frag) (a : Addr) (g : TG) (tb : TS) (D : Ends) (σ : St) (H : Hp) : Prop := ∃ W : Nat → Nat → St → Hp → Prop, (∃ m, W 0 m σ H) ∧ ∀ i m σ H, W i m σ H →
  ((Ite K a).stop i H ∧ D.nx σ H) ∨ ((Ite K a).go i H ∧ ∃ N : St → Hp → Prop, (∀ σ' H', N σ' H' → ∃ m', m' < m ∧ W (i + 1) m' σ' H') ∧ ∀ x H', (Ite K a).yld i H x H' → g x σ H' fun σ2 H2 => tb { D with nx := N, ct := N, bk := D.nx } σ2 H2)
section
variable {K : PySem.W.Frag} {σ : St} {H : Hp} {D : Ends} {g : TG} {tb : TS} {a : Addr}
theorem w_forE {ta : TA} : tFor (iEnum K ta) g tb D σ H = (ta σ H fun vs H1 => ∃ a xs, vs = [.ref a] ∧ SqL K H1 a xs ∧ ForE K a g tb D σ H1) := rfl
end
end L2
set_option Elab.async false
set_option linter.all false
set_option maxRecDepth 100000
set_option maxHeartbeats 1000000
namespace L2
open PySem PySem.Spec
def LPen (H : Hp) (p a : Addr) (c : Int) : Prop := ∃ t l : Int, H p = some (.lst [.ref a, .int t, .int l]) ∧ 0 ≤ t ∧ t ≤ c ∧ 0 ≤ l
theorem LPen.mono {H : Hp} {p a : Addr} {c d : Int} (h : LPen H p a c) (l : c ≤ d) : LPen H p a d := by
  obtain ⟨t, x, e, h0, h1, h2⟩ := h
  exact ⟨t, x, e, h0, by omega, h2⟩
theorem LPen.same {H H' : Hp} {p a : Addr} {c : Int} (h : LPen H p a c) (s : Same H H') : LPen H' p a c := by
  obtain ⟨t, x, e, r⟩ := h
  exact ⟨t, x, s _ _ e, r⟩
theorem LPen.lst {H : Hp} {p a : Addr} {c : Int} (h : LPen H p a c) : ∃ xs, H p = some (.lst xs) := by
  obtain ⟨t, x, e, r⟩ := h
  exact ⟨_, e⟩
theorem LPen.ne {H : Hp} {p a q : Addr} {c : Int} (h : LPen H p a c) (hq : H q = none) : q ≠ p := by
  obtain ⟨xs, h⟩ := h.lst
  exact (ne_of_none h hq).symm
theorem LPen.chg {H H' : Hp} {p a q : Addr} {c : Int} (h : LPen H p a c) (n : p ≠ q) (s : Chg q H H') : LPen H' p a c := by
  obtain ⟨t, x, e, r⟩ := h
  exact ⟨t, x, s _ _ n e, r⟩
def mvI (s n : Int) : Int := n * 2 ^ (if 0 > s then (0 : Int) else s).toNat / 2 ^ (if 0 > 0 - s then (0 : Int) else 0 - s).toNat
end L2
set_option Elab.async false
set_option linter.all false
set_option maxRecDepth 100000
set_option maxHeartbeats 1000000
namespace L2
open PySem PySem.Spec
structure Wd where
  w : Str
  a : Nat
  s : Int
  b : Nat
  t : Int
structure Go where
  th : Nat
  sh : Int
  sg : Int
def wTup (d : Wd) : List V := [.str d.w, .int d.a, .int d.s, .int d.b, .int d.t]
def gTp (g : Go) : List V := [.int g.th, .int g.sh, .int g.sg]
structure HTs {α : Type} (f : α → List V) (H : Hp) (vs : List V) (xs : List α) : Prop where
  len : vs.length = xs.length
  at_ : ∀ (k : Nat) (x : α), xs[k]? = some x → ∃ p : Addr, vs[k]? = some (.ref p) ∧ H p = some (.tup (f x))
section
variable {α : Type} {f : α → List V} {H H' : Hp} {vs us : List V} {xs : List α} {l : Addr}
theorem HTs.same (h : HTs f H vs xs) (s : Same H H') : HTs f H' vs xs := ⟨h.len, fun k d e => by
  obtain ⟨x, e1, e2⟩ := h.at_ k d e
  exact ⟨x, e1, s _ _ e2⟩⟩
theorem HTs.chgL (h : HTs f H vs xs) (hl : H l = some (.lst us)) (c : Chg l H H') : HTs f H' vs xs := ⟨h.len, fun k d e => by
  obtain ⟨x, e1, e2⟩ := h.at_ k d e
  exact ⟨x, e1, c _ _ (ne_of e2 hl (by intro z; cases z)) e2⟩⟩
theorem HTs.snoc {x : α} {p : Addr} (h : HTs f H vs xs) (hx : H p = some (.tup (f x))) : HTs f H (vs ++ [.ref p]) (xs ++ [x]) := by
  refine ⟨by simp [h.len], fun k e he => ?_⟩
  rcases get_snoc he with ⟨hk, z⟩ | ⟨hk, rfl⟩
  · obtain ⟨y, e1, e2⟩ := h.at_ k e z
    exact ⟨y, by rw [List.getElem?_append_left (by rw [h.len]; exact hk)]; exact e1, e2⟩
  · refine ⟨p, ?_, hx⟩
    rw [List.getElem?_append_right (by rw [h.len]; omega), h.len, hk, Nat.sub_self]
    rfl
end
structure HRs (H : Hp) (ex : List Addr) (vs : List V) (rs : List (List Int)) : Prop where
  len : vs.length = rs.length
  at_ : ∀ (k : Nat) (r : List Int), rs[k]? = some r → ∃ p : Addr, vs[k]? = some (.ref p) ∧ H p = some (.lst (r.map V.int)) ∧ ∀ e ∈ ex, p ≠ e
section
variable {H H' : Hp} {ex : List Addr} {vs : List V} {rs : List (List Int)} {l : Addr}
theorem HRs.same (h : HRs H ex vs rs) (s : Same H H') : HRs H' ex vs rs := ⟨h.len, fun k d e => by
  obtain ⟨x, e1, e2, e3⟩ := h.at_ k d e
  exact ⟨x, e1, s _ _ e2, e3⟩⟩
theorem HRs.chg (h : HRs H ex vs rs) (hl : l ∈ ex) (c : Chg l H H') : HRs H' ex vs rs := ⟨h.len, fun k d e => by
  obtain ⟨x, e1, e2, e3⟩ := h.at_ k d e
  exact ⟨x, e1, c _ _ (e3 l hl) e2, e3⟩⟩
theorem HRs.new (h : HRs H ex vs rs) (hl : H l = none) : HRs H (l :: ex) vs rs := ⟨h.len, fun k d e => by
  obtain ⟨x, e1, e2, e3⟩ := h.at_ k d e
  refine ⟨x, e1, e2, fun z hz => ?_⟩
  rcases List.mem_cons.mp hz with e | e
  · subst e; exact ne_of_none e2 hl
  · exact e3 z e⟩
theorem HRs.snoc {r : List Int} {p : Addr} (h : HRs H ex vs rs) (hx : H p = some (.lst (r.map V.int))) (he : ∀ e ∈ ex, p ≠ e) : HRs H ex (vs ++ [.ref p]) (rs ++ [r]) := by
  refine ⟨by simp [h.len], fun k e he2 => ?_⟩
  rcases get_snoc he2 with ⟨hk, z⟩ | ⟨hk, rfl⟩
  · obtain ⟨y, e1, e2⟩ := h.at_ k e z
    exact ⟨y, by rw [List.getElem?_append_left (by rw [h.len]; exact hk)]; exact e1, e2⟩
  · refine ⟨p, ?_, hx, he⟩
    rw [List.getElem?_append_right (by rw [h.len]; omega), h.len, hk, Nat.sub_self]
    rfl
end
def RB (b : Nat) (rs : List (List Int)) : Prop := ∀ r ∈ rs, r.length ≤ 12 ∧ ∀ n ∈ r, n.natAbs ≤ 2 ^ b
theorem RB.snoc {b c : Nat} {rs : List (List Int)} {r : List Int} (h : RB b rs) (hc : b ≤ c) (hl : r.length ≤ 12) (hr : ∀ n ∈ r, n.natAbs ≤ 2 ^ c) : RB c (rs ++ [r]) := fun q hq => by
  rcases List.mem_append.mp hq with z | z
  · exact ⟨(h q z).1, fun n hn => Nat.le_trans ((h q z).2 n hn) (Nat.pow_le_pow_right (by decide) hc)⟩
  · rw [List.mem_singleton.mp z]; exact ⟨hl, hr⟩
structure WebOk (ins : Nat) (ds : List Wd) (gs : List Go) : Prop where
  i1 : 1 ≤ ins
  i2 : ins ≤ 12
  dk : ∀ (k : Nat) (d : Wd), ds[k]? = some d → d.a < ins + k ∧ d.b < ins + k ∧ (d.w = "sum" ∨ d.w = "less")
  gk : ∀ g ∈ gs, g.th < ins + ds.length
  dl : ds.length ≤ 60
  gl : gs.length ≤ 12
end L2
set_option Elab.async false
set_option linter.all false
set_option maxRecDepth 100000
set_option maxHeartbeats 1000000
namespace L2
open PySem PySem.Spec PyProof.Rows
section
variable {X : Cx}
end
end L2
set_option Elab.async false
set_option linter.all false
set_option maxRecDepth 100000
set_option maxHeartbeats 1000000
namespace L2
open PySem PySem.Spec
theorem Chg.updN {p q : Addr} {H H' : Hp} {o : HO} (c : Chg p H H') (h : H q = none) : Chg p H (L2.upd H' q o) := fun b u n e => by rw [upd_ne (ne_of_none e h)]; exact c b u n e
theorem Chg.new {p q : Addr} {H H' : Hp} (c : Chg p H H') (n : q ≠ p) (h : H' q = none) : H q = none := by
  cases e : H q with
  | none => rfl
  | some o => rw [c q o n e] at h; cases h
section
variable {K : PySem.W.Frag} {σ : St} {H : Hp} {Q : VK} {cs : List Nat} {te : TE}
end
def unitRow (n i : Nat) : List Int := (List.range n).map fun k => if k = i then 1 else 0
theorem unitRow_len (n i : Nat) : (unitRow n i).length = n := by unfold unitRow; rw [List.length_map, List.length_range]
theorem unitRow_bound {n i : Nat} {x : Int} (h : x ∈ unitRow n i) : x = 0 ∨ x = 1 := by
  unfold unitRow at h
  obtain ⟨k, _, rfl⟩ := List.mem_map.mp h
  by_cases e : k = i
  · rw [if_pos e]; exact .inr rfl
  · rw [if_neg e]; exact .inl rfl
end L2
set_option Elab.async false
set_option linter.all false
set_option maxRecDepth 100000
set_option maxHeartbeats 1000000
namespace L2
open PySem PySem.Spec
structure WI (H : Hp) (p : Addr) (ins : Nat) (tb dl : Addr) (k : Nat) (vs us : List V) (rs : List (List Int)) (ds : List Wd) (H' : Hp) : Prop where
  tbl : H' tb = some (.lst vs)
  hrs : HRs H' [dl, tb, p] vs rs
  rl : rs.length = ins + k
  rb : RB (41 * k) rs
  rw_ : ∀ r ∈ rs, r.length = ins
  dll : H' dl = some (.lst us)
  hds : HTs wTup H' us ds
  dlen : ds.length = k
  dk : ∀ (j : Nat) (d : Wd), ds[j]? = some d → d.a < ins + j ∧ d.b < ins + j ∧ (d.w = "sum" ∨ d.w = "less")
  chg : Chg p H H'
  ntb : H tb = none
  ndl : H dl = none
  tp : tb ≠ p
  dp : dl ≠ p
  td : tb ≠ dl
theorem WI.step {H : Hp} {p a : Addr} {c : Int} {ins : Nat} {tb dl : Addr} {k : Nat} {vs us : List V} {rs : List (List Int)} {ds : List Wd} {H' H'' : Hp} (h : WI H p ins tb dl k vs us rs ds H') (P : LPen H' p a c) (C : Chg p H' H'') : WI H p ins tb dl k vs us rs ds H'' := by
  obtain ⟨xs, hp⟩ := P.lst
  exact { h with tbl := C _ _ h.tp h.tbl, hrs := h.hrs.chg (by simp) C, dll := C _ _ h.dp h.dll, hds := h.hds.chgL hp C, chg := h.chg.trans C }
theorem WI.row {H : Hp} {p : Addr} {ins : Nat} {tb dl : Addr} {k : Nat} {vs us : List V} {rs : List (List Int)} {ds : List Wd} {H' : Hp} (h : WI H p ins tb dl k vs us rs ds H') {j : Nat} (hj : j < ins + k) :
    ∃ (l : Addr) (r : List Int), rs[j]? = some r ∧ atI vs (j : Int) = some (.ref l) ∧ H' l = some (.lst (r.map V.int)) ∧ l ≠ p ∧ r.length = ins ∧ ∀ x ∈ r, x.natAbs ≤ 2 ^ (41 * k) := by
  have hl : j < rs.length := by rw [h.rl]; exact hj
  obtain ⟨l, e1, e2, e3⟩ := h.hrs.at_ j _ (List.getElem?_eq_getElem hl)
  have hm := List.getElem_mem hl
  exact ⟨l, rs[j], List.getElem?_eq_getElem hl, atI_nat e1, e2, e3 p (by simp), h.rw_ _ hm, (h.rb _ hm).2⟩
theorem HRs.sub {H : Hp} {ex ex' : List Addr} {vs : List V} {rs : List (List Int)} (h : HRs H ex vs rs) (s : ∀ e ∈ ex', e ∈ ex) : HRs H ex' vs rs := ⟨h.len, fun k r e => by
  obtain ⟨p, e1, e2, e3⟩ := h.at_ k r e
  exact ⟨p, e1, e2, fun z hz => e3 z (s z hz)⟩⟩
structure WG (H : Hp) (p : Addr) (ins : Nat) (tb dl gl : Addr) (k : Nat) (vs us os : List V) (rs : List (List Int)) (ds : List Wd) (gs : List Go) (H' : Hp) : Prop where
  wi : WI H p ins tb dl k vs us rs ds H'
  hrs : HRs H' [gl, dl, tb, p] vs rs
  gll : H' gl = some (.lst os)
  hgs : HTs gTp H' os gs
  gk : ∀ g ∈ gs, g.th < ins + k
  ngl : H gl = none
  gp : gl ≠ p
  gd : gl ≠ dl
  gt : gl ≠ tb
theorem WG.step {H : Hp} {p a : Addr} {c : Int} {ins : Nat} {tb dl gl : Addr} {k : Nat} {vs us os : List V} {rs : List (List Int)} {ds : List Wd} {gs : List Go} {H' H'' : Hp} (h : WG H p ins tb dl gl k vs us os rs ds gs H') (P : LPen H' p a c) (C : Chg p H' H'') : WG H p ins tb dl gl k vs us os rs ds gs H'' := by
  obtain ⟨xs, hp⟩ := P.lst
  exact { h with wi := h.wi.step P C, hrs := h.hrs.chg (by simp) C, gll := C _ _ h.gp h.gll, hgs := h.hgs.chgL hp C }
end L2
set_option Elab.async false
set_option linter.all false
set_option maxRecDepth 100000
set_option maxHeartbeats 1000000
namespace L2
open PySem PySem.Spec
structure Wb (H : Hp) (w dl gl : Addr) (ins : Nat) (us : List V) (ds : List Wd) (os : List V) (gs : List Go) : Prop where
  tup : H w = some (.tup [.int ins, .ref dl, .ref gl])
  dll : H dl = some (.lst us)
  hds : HTs wTup H us ds
  gll : H gl = some (.lst os)
  hgs : HTs gTp H os gs
theorem Wb.same {H H' : Hp} {w dl gl : Addr} {ins : Nat} {us : List V} {ds : List Wd} {os : List V} {gs : List Go} (h : Wb H w dl gl ins us ds os gs) (s : Same H H') : Wb H' w dl gl ins us ds os gs :=
  ⟨s _ _ h.tup, s _ _ h.dll, h.hds.same s, s _ _ h.gll, h.hgs.same s⟩
theorem Wb.chg {H H' : Hp} {w dl gl l : Addr} {ins : Nat} {us xs : List V} {ds : List Wd} {os : List V} {gs : List Go} (h : Wb H w dl gl ins us ds os gs) (hl : H l = some (.lst xs)) (h1 : dl ≠ l) (h2 : gl ≠ l) (c : Chg l H H') : Wb H' w dl gl ins us ds os gs :=
  ⟨c _ _ (ne_of h.tup hl (by intro z; cases z)) h.tup, c _ _ h1 h.dll, h.hds.chgL hl c, c _ _ h2 h.gll, h.hgs.chgL hl c⟩
def sgW (w : Str) : Int := if w = "less" then -1 else 1
structure Ar where
  st : Nat
  go : Nat
  sh : Int
  sg : Int
def arrF (ins : Nat) : Nat → List Wd → List Ar
  | _, [] => []
  | k, d :: r => ⟨d.a, ins + k, d.s, 1⟩ :: ⟨d.b, ins + k, d.t, sgW d.w⟩ :: arrF ins (k + 1) r
theorem arrF_app (ins : Nat) : ∀ (xs ys : List Wd) (k : Nat), arrF ins k (xs ++ ys) = arrF ins k xs ++ arrF ins (k + xs.length) ys
  | [], ys, k => rfl
  | d :: r, ys, k => by
    show ⟨d.a, ins + k, d.s, 1⟩ :: ⟨d.b, ins + k, d.t, sgW d.w⟩ :: arrF ins (k + 1) (r ++ ys) = _
    rw [arrF_app ins r ys (k + 1), show k + 1 + r.length = k + (d :: r).length by simp; omega]
    rfl
theorem arrF_len (ins : Nat) : ∀ (xs : List Wd) (k : Nat), (arrF ins k xs).length = 2 * xs.length
  | [], _ => rfl
  | d :: r, k => by
    show (arrF ins (k + 1) r).length + 1 + 1 = _
    rw [arrF_len ins r (k + 1)]; simp; omega
theorem arr_at {ins : Nat} : ∀ {ds : List Wd} {k t : Nat} {a : Ar}, (arrF ins k ds)[t]? = some a → ∃ d, ds[t / 2]? = some d ∧ a.go = ins + k + t / 2 ∧ ((t % 2 = 0 ∧ a = ⟨d.a, ins + k + t / 2, d.s, 1⟩) ∨ (t % 2 = 1 ∧ a = ⟨d.b, ins + k + t / 2, d.t, sgW d.w⟩))
  | [], k, t, a, h => by
    rw [show arrF ins k [] = [] from rfl] at h
    simp at h
  | d :: r, k, t, a, h => by
    match t, h with
    | 0, h => cases h; exact ⟨d, rfl, rfl, .inl ⟨rfl, rfl⟩⟩
    | 1, h => cases h; exact ⟨d, rfl, rfl, .inr ⟨rfl, rfl⟩⟩
    | t + 2, h =>
      have h' : (arrF ins (k + 1) r)[t]? = some a := h
      obtain ⟨e, e1, e2, e3⟩ := arr_at h'
      have q : (t + 2) / 2 = t / 2 + 1 := by omega
      have q2 : ins + (k + 1) + t / 2 = ins + k + (t / 2 + 1) := by omega
      rw [q]
      rw [q2] at e2 e3
      refine ⟨e, e1, e2, ?_⟩
      rcases e3 with ⟨z, e3⟩ | ⟨z, e3⟩
      · exact .inl ⟨by omega, e3⟩
      · exact .inr ⟨by omega, e3⟩
theorem arr_of {ins : Nat} : ∀ {ds : List Wd} {k j : Nat} {d : Wd}, ds[j]? = some d → (arrF ins k ds)[2 * j]? = some ⟨d.a, ins + k + j, d.s, 1⟩ ∧ (arrF ins k ds)[2 * j + 1]? = some ⟨d.b, ins + k + j, d.t, sgW d.w⟩
  | [], k, j, d, h => by simp at h
  | e :: r, k, 0, d, h => by
    cases h
    exact ⟨rfl, rfl⟩
  | e :: r, k, j + 1, d, h => by
    obtain ⟨a, b⟩ := arr_of (ins := ins) (k := k + 1) (j := j) (d := d) (ds := r) h
    rw [show ins + (k + 1) + j = ins + k + (j + 1) by omega] at a b
    exact ⟨a, b⟩
inductive Rch (ins : Nat) (ds : List Wd) (gs : List Go) : Nat → Prop
  | root {g : Go} : g ∈ gs → g.sg ≠ 0 → Rch ins ds gs g.th
  | fst {k : Nat} {d : Wd} : ds[k]? = some d → Rch ins ds gs (ins + k) → Rch ins ds gs d.a
  | snd {k : Nat} {d : Wd} : ds[k]? = some d → Rch ins ds gs (ins + k) → Rch ins ds gs d.b
structure Us (ins : Nat) (ds : List Wd) (gs : List Go) (bs : List Bool) : Prop where
  len : bs.length = ins + ds.length
  iff : ∀ i, i < ins + ds.length → (bs[i]? = some true ↔ Rch ins ds gs i)
structure Ps (ins : Nat) (ds : List Wd) (gs : List Go) (i : Nat) (bs : List Bool) : Prop where
  len : bs.length = ins + ds.length
  snd : ∀ j, bs[j]? = some true → Rch ins ds gs j
  root : ∀ g ∈ gs, g.sg ≠ 0 → bs[g.th]? = some true
  clo : ∀ t a, 2 * ds.length - i ≤ t → (arrF ins 0 ds)[t]? = some a → bs[a.go]? = some true → bs[a.st]? = some true
theorem set_true {bs : List Bool} {j i : Nat} (h : bs[i]? = some true) : (bs.set j true)[i]? = some true := by
  rw [List.getElem?_set]
  split
  · split
    · rfl
    · rename_i e1 e2
      subst e1
      have := (List.getElem?_eq_some_iff.mp h).1
      omega
  · exact h
theorem arr_lt {ins : Nat} {ds : List Wd} {gs : List Go} (ok : WebOk ins ds gs) {t : Nat} {a : Ar} (h : (arrF ins 0 ds)[t]? = some a) : a.st < a.go ∧ a.go = ins + t / 2 ∧ a.go < ins + ds.length := by
  obtain ⟨d, h1, h2, h3⟩ := arr_at h
  have k := ok.dk _ d h1
  have hl := (List.getElem?_eq_some_iff.mp h1).1
  rcases h3 with ⟨_, z⟩ | ⟨_, z⟩ <;> rw [z] <;> refine ⟨?_, by show ins + 0 + t / 2 = _; omega, by show ins + 0 + t / 2 < _; omega⟩
  · show d.a < ins + 0 + t / 2
    omega
  · show d.b < ins + 0 + t / 2
    omega
theorem Ps.step {ins : Nat} {ds : List Wd} {gs : List Go} {i : Nat} {bs : List Bool} (ok : WebOk ins ds gs) (h : Ps ins ds gs i bs) {a : Ar} (hi : i < 2 * ds.length) (ha : (arrF ins 0 ds)[2 * ds.length - 1 - i]? = some a) :
    ∃ b, bs[a.go]? = some b ∧ a.st < bs.length ∧ Ps ins ds gs (i + 1) (if b = true then bs.set a.st true else bs) := by
  obtain ⟨l1, l2, l3⟩ := arr_lt ok ha
  have hl : a.go < bs.length := by rw [h.len]; exact l3
  refine ⟨bs[a.go], List.getElem?_eq_getElem hl, by omega, ?_⟩
  have at_ : ∀ t b, 2 * ds.length - (i + 1) ≤ t → (arrF ins 0 ds)[t]? = some b → t = 2 * ds.length - 1 - i ∧ b = a ∨ 2 * ds.length - i ≤ t ∧ a.go ≤ b.go := fun t b ht hb => by
    by_cases e : t = 2 * ds.length - 1 - i
    · subst e
      rw [ha] at hb
      exact .inl ⟨rfl, (Option.some.inj hb).symm⟩
    · refine .inr ⟨by omega, ?_⟩
      obtain ⟨_, m2, _⟩ := arr_lt ok hb
      rw [l2, m2]
      have : (2 * ds.length - 1 - i) / 2 ≤ t / 2 := Nat.div_le_div_right (by omega)
      omega
  cases hb : bs[a.go] with
  | false =>
    rw [if_neg (by decide)]
    refine ⟨h.len, h.snd, h.root, fun t b ht hb' hg => ?_⟩
    rcases at_ t b ht hb' with ⟨_, z⟩ | ⟨z, _⟩
    · subst z
      rw [List.getElem?_eq_getElem hl, hb] at hg
      cases hg
    · exact h.clo t b z hb' hg
  | true =>
    rw [if_pos rfl]
    have ra : Rch ins ds gs a.go := h.snd _ (by rw [List.getElem?_eq_getElem hl, hb])
    have rs : Rch ins ds gs a.st := by
      obtain ⟨d, h1, h2, h3⟩ := arr_at ha
      rw [h2, Nat.add_zero] at ra
      rcases h3 with ⟨_, z⟩ | ⟨_, z⟩
      · rw [z]; exact .fst h1 ra
      · rw [z]; exact .snd h1 ra
    refine ⟨by rw [List.length_set]; exact h.len, fun j hj => ?_, fun g hg hs => set_true (h.root g hg hs), fun t b ht hb' hg => ?_⟩
    · by_cases e : a.st = j
      · rw [← e]; exact rs
      · rw [List.getElem?_set_ne e] at hj
        exact h.snd j hj
    · rcases at_ t b ht hb' with ⟨_, z⟩ | ⟨z, m⟩
      · subst z
        rw [List.getElem?_set_self (by omega)]
      · rw [List.getElem?_set_ne (by omega)] at hg
        exact set_true (h.clo t b z hb' hg)
theorem Ps.done {ins : Nat} {ds : List Wd} {gs : List Go} {bs : List Bool} (h : Ps ins ds gs (2 * ds.length) bs) : Us ins ds gs bs := by
  refine ⟨h.len, fun i _ => ⟨h.snd i, fun r => ?_⟩⟩
  induction r with
  | root hg hs => exact h.root _ hg hs
  | @fst k d hk _ ih =>
    have l := (List.getElem?_eq_some_iff.mp hk).1
    have a := (arr_of (ins := ins) (k := 0) hk).1
    exact h.clo _ _ (by omega) a (ih (by omega))
  | @snd k d hk _ ih =>
    have l := (List.getElem?_eq_some_iff.mp hk).1
    have a := (arr_of (ins := ins) (k := 0) hk).2
    exact h.clo _ _ (by omega) a (ih (by omega))
structure Rt (ins : Nat) (ds : List Wd) (gs : List Go) (i : Nat) (bs : List Bool) : Prop where
  len : bs.length = ins + ds.length
  snd : ∀ j, bs[j]? = some true → Rch ins ds gs j
  root : ∀ k g, k < i → gs[k]? = some g → g.sg ≠ 0 → bs[g.th]? = some true
theorem Rt.step {ins : Nat} {ds : List Wd} {gs : List Go} {i : Nat} {bs : List Bool} (h : Rt ins ds gs i bs) {g : Go} (hg : gs[i]? = some g) (hlt : g.th < ins + ds.length) : Rt ins ds gs (i + 1) (if g.sg = 0 then bs else bs.set g.th true) := by
  by_cases z : g.sg = 0
  · rw [if_pos z]
    refine ⟨h.len, h.snd, fun k e hk he hs => ?_⟩
    by_cases q : k = i
    · subst q
      rw [hg] at he
      cases he
      exact absurd z hs
    · exact h.root k e (by omega) he hs
  · rw [if_neg z]
    refine ⟨by rw [List.length_set]; exact h.len, fun j hj => ?_, fun k e hk he hs => ?_⟩
    · by_cases e : g.th = j
      · rw [← e]; exact .root (List.mem_of_getElem? hg) z
      · rw [List.getElem?_set_ne e] at hj
        exact h.snd j hj
    · by_cases q : k = i
      · subst q
        rw [hg] at he
        cases he
        rw [List.getElem?_set_self (by rw [h.len]; exact hlt)]
      · exact set_true (h.root k e (by omega) he hs)
theorem Rt.done {ins : Nat} {ds : List Wd} {gs : List Go} {bs : List Bool} (h : Rt ins ds gs gs.length bs) : Ps ins ds gs 0 bs := by
  refine ⟨h.len, h.snd, fun g hg hs => ?_, fun t a ht ha => ?_⟩
  · obtain ⟨k, hk⟩ := List.getElem?_of_mem hg
    exact h.root k g (List.getElem?_eq_some_iff.mp hk).1 hk hs
  · have := (List.getElem?_eq_some_iff.mp ha).1
    rw [arrF_len] at this
    omega
end L2
set_option Elab.async false
set_option linter.all false
set_option maxRecDepth 100000
set_option maxHeartbeats 1000000
namespace L2
open PySem PySem.Spec
section
variable {H : Hp} {Q : VK}
theorem w_pop {l : Addr} : rPop (.ref l) [] H Q = ∃ xs y, H l = some (.lst xs) ∧ xs[xs.length - 1]? = some y ∧ Q y (upd H l (.lst xs.dropLast)) :=
  propext ⟨fun ⟨l', xs, y, e, _, h, g, q⟩ => by cases e; exact ⟨xs, y, h, g, q⟩, fun ⟨xs, y, h, g, q⟩ => ⟨l, xs, y, rfl, rfl, h, g, q⟩⟩
theorem w_extend {l b : Addr} : rExtend (.ref l) [.ref b] H Q = ∃ xs zs, H l = some (.lst xs) ∧ H b = some (.lst zs) ∧ xs.length + zs.length ≤ sizeLine ∧ Q .non (upd H l (.lst (xs ++ zs))) :=
  propext ⟨fun ⟨l', b', xs, zs, e, e2, h⟩ => by cases e; cases e2; exact ⟨xs, zs, h⟩, fun ⟨xs, zs, h⟩ => ⟨l, b, xs, zs, rfl, rfl, h⟩⟩
theorem w_reverse {l : Addr} : rReverse (.ref l) [] H Q = ∃ xs, H l = some (.lst xs) ∧ Q .non (upd H l (.lst xs.reverse)) :=
  propext ⟨fun ⟨l', xs, e, _, h⟩ => by cases e; exact ⟨xs, h⟩, fun ⟨xs, h⟩ => ⟨l, xs, rfl, rfl, h⟩⟩
theorem w_clear {l : Addr} : rClear (.ref l) [] H Q = ∃ xs, H l = some (.lst xs) ∧ Q .non (upd H l (.lst [])) :=
  propext ⟨fun ⟨l', xs, e, _, h⟩ => by cases e; exact ⟨xs, h⟩, fun ⟨xs, h⟩ => ⟨l, xs, rfl, rfl, h⟩⟩
theorem w_cat {l b : Addr} : rCat (.ref l) (.ref b) H Q = ∃ xs zs, H l = some (.lst xs) ∧ H b = some (.lst zs) ∧ xs.length + zs.length ≤ sizeLine ∧ ∀ p, H p = none → Q (.ref p) (upd H p (.lst (xs ++ zs))) :=
  propext ⟨fun ⟨l', b', xs, zs, e, e2, h⟩ => by cases e; cases e2; exact ⟨xs, zs, h⟩, fun ⟨xs, zs, h⟩ => ⟨l, b, xs, zs, rfl, rfl, h⟩⟩
end
section
variable {X : Cx}
end
section
variable {K : PySem.W.Frag} {σ : St} {H : Hp} {Q : VK} {cs : List Nat} {tt : TT} {te : TE}
end
def fr (ms : List Nat) : Nat → Nat
  | 0 => 0
  | n + 1 => (if n ∈ ms then 0 else 1) + fr ms n
structure Sr (ins : Nat) (ds : List Wd) (gs : List Go) (ws ms : List Nat) : Prop where
  sw : ∀ x ∈ ws, Rch ins ds gs x ∧ x < ins + ds.length
  sm : ∀ x ∈ ms, Rch ins ds gs x
  rt : ∀ g ∈ gs, g.sg ≠ 0 → g.th ∈ ws ∨ g.th ∈ ms
  cl : ∀ k d, ds[k]? = some d → ins + k ∈ ms → (d.a ∈ ws ∨ d.a ∈ ms) ∧ (d.b ∈ ws ∨ d.b ∈ ms)
  ct : ms.length + fr ms (ins + ds.length) = ins + ds.length
theorem Sr.old {ins : Nat} {ds : List Wd} {gs : List Go} {ws ms : List Nat} {x : Nat} (h : Sr ins ds gs (ws ++ [x]) ms) (hx : x ∈ ms) : Sr ins ds gs ws ms := by
  have fix : ∀ y, y ∈ ws ++ [x] ∨ y ∈ ms → y ∈ ws ∨ y ∈ ms := fun y hy => by
    rcases hy with z | z
    · rcases List.mem_append.mp z with z | z
      · exact .inl z
      · rw [List.mem_singleton.mp z]; exact .inr hx
    · exact .inr z
  exact ⟨fun y hy => h.sw y (List.mem_append_left _ hy), h.sm, fun g hg hs => fix _ (h.rt g hg hs), fun k d hk hm => ⟨fix _ (h.cl k d hk hm).1, fix _ (h.cl k d hk hm).2⟩, h.ct⟩
theorem Sr.done {ins : Nat} {ds : List Wd} {gs : List Go} {ms : List Nat} (h : Sr ins ds gs [] ms) : Us ins ds gs ((List.range (ins + ds.length)).map fun i => decide (i ∈ ms)) := by
  refine ⟨by rw [List.length_map, List.length_range], fun i hi => ?_⟩
  rw [List.getElem?_map, List.getElem?_range hi]
  show some (decide (i ∈ ms)) = some true ↔ _
  simp only [Option.some.injEq, decide_eq_true_eq]
  refine ⟨h.sm i, fun r => ?_⟩
  have no : ∀ {y : Nat}, y ∈ ([] : List Nat) ∨ y ∈ ms → y ∈ ms := fun z => by
    rcases z with z | z
    · cases z
    · exact z
  induction r with
  | root hg hs => exact no (h.rt _ hg hs)
  | @fst k d hk _ ih => exact no (h.cl k d hk (ih (by have := (List.getElem?_eq_some_iff.mp hk).1; omega))).1
  | @snd k d hk _ ih => exact no (h.cl k d hk (ih (by have := (List.getElem?_eq_some_iff.mp hk).1; omega))).2
theorem hts_isL {α : Type} {f : α → List V} {K : PySem.W.Frag} {H : Hp} (hf : ∀ a, (f a).all flatV = true) : ∀ {xs : List α} {vs : List V}, HTs f H vs xs → IsL K H vs (xs.map fun a => .t ((f a).map Dt.f))
  | [], vs, h => by
    have : vs = [] := List.eq_nil_of_length_eq_zero h.len
    subst this
    rw [List.map_nil, IsL]
  | a :: r, vs, h => by
    obtain ⟨p, h1, h2⟩ := h.at_ 0 a rfl
    cases vs with
    | nil => cases h1
    | cons v vs =>
      cases h1
      rw [List.map_cons, IsL]
      refine ⟨_, _, rfl, is_tup (SqT.of h2) (hf a), hts_isL hf ⟨by have := h.len; simpa using this, fun k x hx => ?_⟩⟩
      exact h.at_ (k + 1) x hx
def webDt (ins : Nat) (ds : List Wd) (gs : List Go) : Dt := .t [.f (.int ins), .l (ds.map fun d => .t ((wTup d).map Dt.f)), .l (gs.map fun g => .t ((gTp g).map Dt.f))]
theorem Wb.is {K : PySem.W.Frag} {H : Hp} {w dl gl : Addr} {ins : Nat} {us : List V} {ds : List Wd} {os : List V} {gs : List Go} (h : Wb H w dl gl ins us ds os gs) : Is K H (.ref w) (webDt ins ds gs) := by
  unfold webDt
  rw [Is]
  refine ⟨w, _, rfl, SqT.of h.tup, ?_⟩
  rw [IsL]
  refine ⟨_, _, rfl, by rw [Is]; exact ⟨rfl, rfl⟩, ?_⟩
  rw [IsL]
  refine ⟨_, _, rfl, ?_, ?_⟩
  · rw [Is]
    exact ⟨dl, us, rfl, SqL.of h.dll, hts_isL (fun _ => rfl) h.hds⟩
  · rw [IsL]
    refine ⟨_, _, rfl, ?_, by rw [IsL]⟩
    rw [Is]
    exact ⟨gl, os, rfl, SqL.of h.gll, hts_isL (fun _ => rfl) h.hgs⟩
structure Hd (H : Hp) (ex : List Addr) (hs : List V) : Prop where
  at_ : ∀ v ∈ hs, ∃ (q f d : Addr) (bs : List Bool), v = .ref q ∧ H q = some (.lst [.ref f, .ref d]) ∧ H f = some (.lst (bs.map V.bl)) ∧ H d = some (.lst (bs.map V.bl)) ∧ bs.length ≤ 200 ∧ ∀ e ∈ ex, q ≠ e ∧ f ≠ e ∧ d ≠ e
theorem Hd.chg {H H' : Hp} {ex : List Addr} {hs : List V} {l : Addr} (h : Hd H ex hs) (hl : l ∈ ex) (c : Chg l H H') : Hd H' ex hs := ⟨fun v hv => by
  obtain ⟨q, f, d, bs, e, a1, a2, a3, a4, a5⟩ := h.at_ v hv
  obtain ⟨n1, n2, n3⟩ := a5 l hl
  exact ⟨q, f, d, bs, e, c _ _ n1 a1, c _ _ n2 a2, c _ _ n3 a3, a4, a5⟩⟩
theorem Hd.snoc {H : Hp} {ex : List Addr} {hs : List V} (h : Hd H ex hs) {q f d : Addr} {bs : List Bool} (h1 : H q = some (.lst [.ref f, .ref d])) (h2 : H f = some (.lst (bs.map V.bl))) (h3 : H d = some (.lst (bs.map V.bl))) (h4 : bs.length ≤ 200) (h5 : ∀ e ∈ ex, q ≠ e ∧ f ≠ e ∧ d ≠ e) : Hd H ex (hs ++ [.ref q]) := ⟨fun v hv => by
  rcases List.mem_append.mp hv with z | z
  · exact h.at_ v z
  · rw [List.mem_singleton.mp z]
    exact ⟨q, f, d, bs, rfl, h1, h2, h3, h4, h5⟩⟩
def IsW (H : Hp) (hd : Addr) (x : V) : Prop := ∃ (w dl gl : Addr) (ins : Nat) (us : List V) (ds : List Wd) (os : List V) (gs : List Go), x = .ref w ∧ Wb H w dl gl ins us ds os gs ∧ WebOk ins ds gs ∧ dl ≠ hd ∧ gl ≠ hd
theorem IsW.chg {H H' : Hp} {hd : Addr} {x : V} {xs : List V} (h : IsW H hd x) (hl : H hd = some (.lst xs)) (c : Chg hd H H') : IsW H' hd x := by
  obtain ⟨w, dl, gl, ins, us, ds, os, gs, rfl, W, ok, n1, n2⟩ := h
  exact ⟨w, dl, gl, ins, us, ds, os, gs, rfl, W.chg hl n1 n2 c, ok, n1, n2⟩
end L2
set_option Elab.async false
set_option linter.all false
set_option maxRecDepth 100000
set_option maxHeartbeats 1000000
namespace L2
open PySem PySem.Spec PyProof.Rows
abbrev ZX (h : Heap) (z TI TO a : Addr) (f : Bool) : Prop := h.get? z = some { cls := .type "zip", dict := none, data := .fields #[rawInt a, .bool f, .bool false, .ref TI, .ref TO], slots := #[] }
section
variable {prog : Program} {w : World} {A : Around} {E : Value → Shared → Prop} {s : Shared}
def ZSt (h : Heap) (z TI TO i1 i2 l1 l2 S : Addr) (k : Nat) : Prop :=
  IsPair h TI (.ref i1) (.ref i2) ∧ h.IsListIter i1 l1 k ∧ h.IsListIter i2 l2 k ∧ ((k = 0 ∧ IsZip h z TI TO .none ∧ ∃ x y, IsPair h TO x y) ∨ ∃ a f oa, ZX h z TI TO a f ∧ h.get? a = some oa ∧ a ≠ z ∧ a ≠ S ∧ a ≠ i1 ∧ a ≠ i2)
theorem ZSt.keep {h h' : Heap} {z TI TO i1 i2 l1 l2 S : Addr} {k : Nat} (st : ZSt h z TI TO i1 i2 l1 l2 S k) (hk : ∀ b o, b ≠ S → h.get? b = some o → h'.get? b = some o) (n : z ≠ S ∧ TI ≠ S ∧ TO ≠ S ∧ i1 ≠ S ∧ i2 ≠ S) : ZSt h' z TI TO i1 i2 l1 l2 S k := by
  obtain ⟨a, b, c, d⟩ := st
  obtain ⟨n1, n2, n3, n4, n5⟩ := n
  refine ⟨hk _ _ n2 a, b.at fun o e => hk _ o n4 e, c.at fun o e => hk _ o n5 e, ?_⟩
  rcases d with ⟨e, d1, x, y, d2⟩ | ⟨a, f, oa, d1, d2, d3, d4, d5⟩
  · exact .inl ⟨e, hk _ _ n1 d1, x, y, hk _ _ n3 d2⟩
  · exact .inr ⟨a, f, oa, hk _ _ n1 d1, hk _ _ d4 d2, d3, d4, d5⟩
structure ZG (xs ys : Array Value) (lo : Addr) (h : Heap) (as : List Addr) : Prop where
  above : ∀ a ∈ as, lo < a
  nd : as.Pairwise (· < ·)
  pair : ∀ (j : Nat) (a : Addr), as[j]? = some a → ∃ x y, xs[j]? = some x ∧ ys[j]? = some y ∧ IsPair h a x y
theorem ZG.lt {xs ys : Array Value} {lo a : Addr} {h : Heap} {as : List Addr} (g : ZG xs ys lo h as) (ha : a ∈ as) : a < h.objs.size := by
  obtain ⟨j, hj⟩ := List.mem_iff_getElem?.mp ha
  obtain ⟨x, y, _, _, e⟩ := g.pair j a hj
  exact Heap.lt_size e
end
section
variable {prog : Program} {w : World} {A : Around} {s : Shared} {R : Result → Shared → Prop} {xs ys : Array Value} {z TI TO i1 i2 l1 l2 S lo : Addr}
end
section
variable {prog : Program} {w : World} {A : Around} {E : Value → Shared → Prop} {s : Shared} {xs ys : Array Value} {z TI TO i1 i2 l1 l2 : Addr}
end
def tLZ (K : PySem.W.Frag) (ta : TA) : TE := fun σ H Q => ta σ H fun vs H1 => ∃ a b us ws, vs = [.ref a, .ref b] ∧ SqL K H1 a us ∧ SqL K H1 b ws ∧ ws.length = us.length ∧ us.length ≤ 1000 ∧
  ∀ l zs H', H1 l = none → Same H1 H' → H' l = some (.lst zs) → zs.length = us.length → (∀ (k : Nat) (x y : V), us[k]? = some x → ws[k]? = some y → ∃ t : Addr, zs[k]? = some (.ref t) ∧ H' t = some (.tup [x, y])) → Q (.ref l) H'
theorem w_LZ {K : PySem.W.Frag} {ta : TA} {σ : St} {H : Hp} {Q : VK} : tLZ K ta σ H Q = (ta σ H fun vs H1 => ∃ a b us ws, vs = [.ref a, .ref b] ∧ SqL K H1 a us ∧ SqL K H1 b ws ∧ ws.length = us.length ∧ us.length ≤ 1000 ∧
  ∀ l zs H', H1 l = none → Same H1 H' → H' l = some (.lst zs) → zs.length = us.length → (∀ (k : Nat) (x y : V), us[k]? = some x → ws[k]? = some y → ∃ t : Addr, zs[k]? = some (.ref t) ∧ H' t = some (.tup [x, y])) → Q (.ref l) H') := rfl
end L2
set_option Elab.async false
set_option linter.all false
set_option maxRecDepth 100000
set_option maxHeartbeats 1000000
namespace L2
open PySem PySem.Spec
def rowD (rs : List (List Int)) (d : Wd) : List Int := List.zipWith (fun x y => mvI d.s x + sgW d.w * mvI d.t y) (rs.getD d.a []) (rs.getD d.b [])
def rowsW (ins : Nat) (ds : List Wd) : List (List Int) := ds.foldl (fun rs d => rs ++ [rowD rs d]) ((List.range ins).map (unitRow ins))
theorem rowsW_snoc (ins : Nat) (ds : List Wd) (d : Wd) : rowsW ins (ds ++ [d]) = rowsW ins ds ++ [rowD (rowsW ins ds) d] := by unfold rowsW; rw [List.foldl_append]; rfl
theorem rowsW_len (ins : Nat) (ds : List Wd) : (rowsW ins ds).length = ins + ds.length := by
  refine snoc_ind (p := fun ds => (rowsW ins ds).length = ins + ds.length) ?_ (fun xs x ih => ?_) ds
  · unfold rowsW; simp
  · rw [rowsW_snoc, List.length_append, ih]; simp; omega
theorem rowsW_pre (ins : Nat) (ds new : List Wd) {k : Nat} {r : List Int} (h : (rowsW ins ds)[k]? = some r) : (rowsW ins (ds ++ new))[k]? = some r := by
  refine snoc_ind (p := fun new => (rowsW ins (ds ++ new))[k]? = some r) (by rw [List.append_nil]; exact h) (fun xs x ih => ?_) new
  rw [← List.append_assoc, rowsW_snoc, List.getElem?_append_left (List.getElem?_eq_some_iff.mp ih).1]
  exact ih
theorem getD_of {α : Type} {xs : List α} {k : Nat} {x d : α} (h : xs[k]? = some x) : xs.getD k d = x := by rw [List.getD_eq_getElem?_getD, h]; rfl
def Dv (s : Int) (r : List Int) : Prop := s < 0 → ∀ x ∈ r, (2 : Int) ^ (-s).toNat ∣ x
def Sh (s : Int) (r : List Int) : Prop := -40 ≤ s ∧ s ≤ 40 ∧ Dv s r
def ShOk (ins : Nat) (ds : List Wd) : Prop := ∀ (k : Nat) (d : Wd), ds[k]? = some d → d.a < ins + k ∧ d.b < ins + k ∧ Sh d.s ((rowsW ins ds).getD d.a []) ∧ Sh d.t ((rowsW ins ds).getD d.b [])
theorem rows_stay (ins : Nat) (ds : List Wd) (d : Wd) {j : Nat} (h : j < ins + ds.length) : (rowsW ins (ds ++ [d])).getD j [] = (rowsW ins ds).getD j [] := by
  have hj : j < (rowsW ins ds).length := by rw [rowsW_len]; exact h
  have e := List.getElem?_eq_getElem hj
  rw [getD_of e, getD_of (rowsW_pre ins ds [d] e)]
theorem ShOk.snoc {ins : Nat} {ds : List Wd} {d : Wd} (h : ShOk ins ds) (h1 : d.a < ins + ds.length) (h2 : d.b < ins + ds.length) (h3 : Sh d.s ((rowsW ins ds).getD d.a [])) (h4 : Sh d.t ((rowsW ins ds).getD d.b [])) : ShOk ins (ds ++ [d]) := fun k e he => by
  rcases get_snoc he with ⟨hk, z⟩ | ⟨hk, rfl⟩
  · obtain ⟨a, b, c, f⟩ := h k e z
    rw [rows_stay ins ds d (by omega), rows_stay ins ds d (by omega)]
    exact ⟨a, b, c, f⟩
  · rw [rows_stay ins ds _ h1, rows_stay ins ds _ h2, hk]
    exact ⟨h1, h2, h3, h4⟩
def GoOk (ins : Nat) (ds : List Wd) (gs : List Go) : Prop := ∀ g ∈ gs, g = ⟨0, 0, 0⟩ ∨ ((g.sg = 1 ∨ g.sg = -1) ∧ Sh g.sh ((rowsW ins ds).getD g.th []))
structure FWeb (ins : Nat) (ds : List Wd) (gs : List Go) : Prop where
  ok : WebOk ins ds gs
  sh : ShOk ins ds
  go : GoOk ins ds gs
  rb : RB (41 * ds.length) (rowsW ins ds)
  wd : ∀ r ∈ rowsW ins ds, r.length = ins
theorem WI.stepL {H : Hp} {p : Addr} {ins : Nat} {tb dl : Addr} {k : Nat} {vs us xs : List V} {rs : List (List Int)} {ds : List Wd} {H' H'' : Hp} (h : WI H p ins tb dl k vs us rs ds H') (hp : H' p = some (.lst xs)) (C : Chg p H' H'') : WI H p ins tb dl k vs us rs ds H'' :=
  { h with tbl := C _ _ h.tp h.tbl, hrs := h.hrs.chg (by simp) C, dll := C _ _ h.dp h.dll, hds := h.hds.chgL hp C, chg := h.chg.trans C }
structure FI (H : Hp) (p : Addr) (ins : Nat) (tb dl : Addr) (k : Nat) (vs us : List V) (ds : List Wd) (H' : Hp) : Prop where
  wi : WI H p ins tb dl k vs us (rowsW ins ds) ds H'
  sh : ShOk ins ds
theorem FI.step {H : Hp} {p : Addr} {c : Int} {ins : Nat} {tb dl : Addr} {k : Nat} {vs us : List V} {ds : List Wd} {H' H'' : Hp} (h : FI H p ins tb dl k vs us ds H') (F : Feed H' p c) (C : Chg p H' H'') : FI H p ins tb dl k vs us ds H'' := by
  obtain ⟨xs, hp⟩ := F.lst
  exact ⟨h.wi.stepL hp C, h.sh⟩
section
variable {K : PySem.W.Frag} {σ : St} {H : Hp} {Q : VK} {cs : List Nat} {te : TE}
end
theorem mvI_up {s n : Int} (h : 0 ≤ s) : mvI s n = n * 2 ^ s.toNat := by
  unfold mvI
  rw [if_neg (by omega)]
  by_cases z : 0 > 0 - s
  · rw [if_pos z]; simp
  · rw [if_neg z, show s = 0 by omega]; simp
theorem mvI_down {s n : Int} (h : s < 0) : mvI s n = n / 2 ^ (-s).toNat := by
  unfold mvI
  rw [if_pos (by omega), if_neg (by omega), show (0 - s) = -s by omega]
  simp
structure FG (H : Hp) (p : Addr) (ins : Nat) (tb dl gl : Addr) (k : Nat) (vs us os : List V) (ds : List Wd) (gs : List Go) (H' : Hp) : Prop where
  wg : WG H p ins tb dl gl k vs us os (rowsW ins ds) ds gs H'
  sh : ShOk ins ds
  go : GoOk ins ds gs
theorem FG.step {H : Hp} {p : Addr} {c : Int} {ins : Nat} {tb dl gl : Addr} {k : Nat} {vs us os : List V} {ds : List Wd} {gs : List Go} {H' H'' : Hp} (h : FG H p ins tb dl gl k vs us os ds gs H') (F : Feed H' p c) (C : Chg p H' H'') : FG H p ins tb dl gl k vs us os ds gs H'' := by
  obtain ⟨xs, hp⟩ := F.lst
  exact ⟨{ h.wg with wi := h.wg.wi.stepL hp C, hrs := h.wg.hrs.chg (by simp) C, gll := C _ _ h.wg.gp h.wg.gll, hgs := h.wg.hgs.chgL hp C }, h.sh, h.go⟩
end L2
set_option Elab.async false
set_option linter.all false
set_option maxRecDepth 100000
set_option maxHeartbeats 1000000
namespace L2
open PySem PySem.Spec
section
variable {K : PySem.W.Frag} {σ : St} {H : Hp} {Q : VK} {cs : List Nat} {te : TE}
end
theorem RB.lt {b : Nat} {rs : List (List Int)} {r : List Int} (h : RB b rs) (hr : r ∈ rs) (hb : b ≤ 8000) : ∀ x ∈ r, x.natAbs < 2 ^ 9000 := fun x hx => Nat.lt_of_le_of_lt ((h r hr).2 x hx) (Nat.pow_lt_pow_right (by decide) (by omega))
theorem rowsW_take {ins : Nat} {ds : List Wd} {i : Nat} {d : Wd} (hd : ds[i]? = some d) : rowsW ins (ds.take (i + 1)) = rowsW ins (ds.take i) ++ [rowD (rowsW ins (ds.take i)) d] := by
  rw [List.take_add_one, hd]
  exact rowsW_snoc _ _ _
end L2
set_option Elab.async false
set_option linter.all false
set_option maxRecDepth 100000
set_option maxHeartbeats 1000000
namespace L2
open PySem PySem.Spec
theorem HTs.take {α : Type} {f : α → List V} {H : Hp} {vs : List V} {xs : List α} (h : HTs f H vs xs) (n : Nat) : HTs f H (vs.take n) (xs.take n) := by
  refine ⟨by rw [List.length_take, List.length_take, h.len], fun k x hx => ?_⟩
  have hk : k < n := by
    have := (List.getElem?_eq_some_iff.mp hx).1
    rw [List.length_take] at this
    omega
  rw [List.getElem?_take_of_lt hk] at hx ⊢
  exact h.at_ k x hx
theorem rowsW_zero (ins : Nat) (ds : List Wd) : (rowsW ins ds).take ins = rowsW ins [] := by
  refine snoc_ind (p := fun ds => (rowsW ins ds).take ins = rowsW ins []) ?_ (fun xs x ih => ?_) ds
  · exact List.take_of_length_le (by rw [rowsW_len]; simp)
  · rw [rowsW_snoc, List.take_append_of_le_length (by rw [rowsW_len]; omega)]
    exact ih
theorem mvI_zero (x : Int) : mvI 0 x = x := by rw [mvI_up (by decide)]; simp
theorem FWeb.bare {ins : Nat} {ds : List Wd} {gs : List Go} (h : FWeb ins ds gs) : FWeb ins [] [] := by
  have sub : ∀ r ∈ rowsW ins [], r ∈ rowsW ins ds := fun r hr => by
    rw [← rowsW_zero ins ds] at hr
    exact List.mem_of_mem_take hr
  refine ⟨⟨h.ok.i1, h.ok.i2, fun k d e => by simp at e, (fun g hg => by cases hg), by decide, by decide⟩, (fun k d e => by simp at e), (fun g hg => by cases hg), fun r hr => ?_, fun r hr => h.wd r (sub r hr)⟩
  have hr' : r ∈ (List.range ins).map (unitRow ins) := hr
  obtain ⟨i, _, rfl⟩ := List.mem_map.mp hr'
  refine ⟨by rw [unitRow_len]; exact h.ok.i2, fun n hn => ?_⟩
  rcases unitRow_bound hn with z | z <;> subst z <;> decide
theorem rowsW_unit {ins : Nat} {ds : List Wd} {i : Nat} (hi : i < ins) : (rowsW ins ds).getD i [] = unitRow ins i := by
  have e : ((rowsW ins ds).take ins)[i]? = some (unitRow ins i) := by
    rw [rowsW_zero]
    show ((List.range ins).map (unitRow ins))[i]? = _
    rw [List.getElem?_map, List.getElem?_range hi]
    rfl
  rw [List.getElem?_take_of_lt hi] at e
  exact getD_of e
end L2
set_option Elab.async false
set_option linter.all false
set_option maxRecDepth 100000
set_option maxHeartbeats 1000000
namespace L2
open PySem PySem.Spec
section
variable {α : Type} {f : α → List V} {K : PySem.W.Frag} {H : Hp} {l l' : Addr} {ys ys' : List V} {xs : List α} {Q : VK}
end
theorem HRs.take {H : Hp} {ex : List Addr} {vs : List V} {xs : List (List Int)} (h : HRs H ex vs xs) (n : Nat) : HRs H ex (vs.take n) (xs.take n) := by
  refine ⟨by rw [List.length_take, List.length_take, h.len], fun k x hx => ?_⟩
  have hk : k < n := by
    have := (List.getElem?_eq_some_iff.mp hx).1
    rw [List.length_take] at this
    omega
  rw [List.getElem?_take_of_lt hk] at hx ⊢
  exact h.at_ k x hx
theorem HRs.drop {H : Hp} {ex : List Addr} {vs : List V} {xs : List (List Int)} (h : HRs H ex vs xs) (n : Nat) : HRs H ex (vs.drop n) (xs.drop n) := by
  refine ⟨by rw [List.length_drop, List.length_drop, h.len], fun k x hx => ?_⟩
  rw [List.getElem?_drop] at hx ⊢
  exact h.at_ (n + k) x hx
def oarr (n : Nat) : Nat → List Go → List Ar
  | _, [] => []
  | j, g :: r => (if g.sg = 0 then [] else [⟨g.th, n + j, g.sh, g.sg⟩]) ++ oarr n (j + 1) r
theorem oarr_len (n : Nat) : ∀ (xs : List Go) (j : Nat), (oarr n j xs).length ≤ xs.length
  | [], _ => Nat.le_refl _
  | g :: r, j => by
    show ((if g.sg = 0 then [] else [_]) ++ oarr n (j + 1) r).length ≤ _
    have := oarr_len n r (j + 1)
    rw [List.length_append]
    split <;> simp <;> omega
theorem oarr_mem {n : Nat} : ∀ {xs : List Go} {j : Nat} {a : Ar}, a ∈ oarr n j xs → ∃ (k : Nat) (g : Go), xs[k]? = some g ∧ g.sg ≠ 0 ∧ a = ⟨g.th, n + (j + k), g.sh, g.sg⟩
  | [], j, a, h => by cases h
  | g :: r, j, a, h => by
    rcases List.mem_append.mp (show a ∈ (if g.sg = 0 then [] else [_]) ++ oarr n (j + 1) r from h) with z | z
    · by_cases e : g.sg = 0
      · rw [if_pos e] at z; cases z
      · rw [if_neg e] at z
        exact ⟨0, g, rfl, e, List.mem_singleton.mp z⟩
    · obtain ⟨k, g', h1, h2, h3⟩ := oarr_mem z
      exact ⟨k + 1, g', h1, h2, by rw [h3, show j + 1 + k = j + (k + 1) by omega]⟩
def allA (ins : Nat) (ds : List Wd) (gs : List Go) : List Ar := arrF ins 0 ds ++ oarr (ins + ds.length) 0 gs
end L2
set_option Elab.async false
set_option linter.all false
set_option maxRecDepth 100000
set_option maxHeartbeats 1000000
namespace L2
open PySem PySem.Spec PyProof.Rows
def tLR (ta : TA) : TE := fun σ H Q => ta σ H fun vs H1 => ∃ j : Nat, vs = [.int (j : Int)] ∧ j ≤ 1000 ∧ ∀ l H', H1 l = none → Same H1 H' → H' l = some (.lst (rngV 0 j)) → Q (.ref l) H'
theorem w_LR {ta : TA} {σ : St} {H : Hp} {Q : VK} : tLR ta σ H Q = (ta σ H fun vs H1 => ∃ j : Nat, vs = [.int (j : Int)] ∧ j ≤ 1000 ∧ ∀ l H', H1 l = none → Same H1 H' → H' l = some (.lst (rngV 0 j)) → Q (.ref l) H') := rfl
def iRngD (ta : TA) : TI := fun σ H R => ta σ H fun vs H1 => ∃ i : Int, vs = [.int i, .int (-1), .int (-1)] ∧ (-1 ≤ i ∧ i < 2 ^ 31) ∧ R (Itr3 i (-1) (i + 1).toNat) H1
theorem w_forD {σ : St} {H : Hp} {D : Ends} {g : TG} {tb : TS} {ta : TA} : tFor (iRngD ta) g tb D σ H = (ta σ H fun vs H1 => ∃ i : Int, vs = [.int i, .int (-1), .int (-1)] ∧ (-1 ≤ i ∧ i < 2 ^ 31) ∧ ForR3 i (-1) (i + 1).toNat g tb D σ H1) := rfl
def keptN (bs : List Bool) (ins : Nat) : Nat → Nat
  | 0 => 0
  | k + 1 => keptN bs ins k + (if bs.getD (ins + k) false = true then 1 else 0)
def renN (bs : List Bool) (ins j : Nat) : Nat := if j < ins then j else ins + keptN bs ins (j - ins)
section
variable {K : PySem.W.Frag} {σ : St} {H : Hp} {Q : VK} {cs : List Nat} {te : TE}
end
end L2
set_option Elab.async false
set_option linter.all false
set_option maxRecDepth 100000
set_option maxHeartbeats 1000000
namespace L2
open PySem PySem.Spec PyProof.Rows
section
variable {prog : Program} {w : World} {A : Around} {E : Value → Shared → Prop} {s : Shared}
def TI2 (h : Heap) (it t : Addr) (items : Array Value) (i : Nat) : Prop := h.IsTupleIter it t i ∧ h.IsTuple t items
theorem TI2.at {h h' : Heap} {it t : Addr} {items : Array Value} {i : Nat} (x : TI2 h it t items i) (k1 : ∀ o, h.get? it = some o → h'.get? it = some o) (k2 : ∀ o, h.get? t = some o → h'.get? t = some o) : TI2 h' it t items i := by
  obtain ⟨⟨o, e, r⟩, ⟨o2, e2, r2⟩⟩ := x
  exact ⟨⟨o, k1 o e, r⟩, ⟨o2, k2 o2 e2, r2⟩⟩
theorem TI2.but {h h' : Heap} {it t c : Addr} {items : Array Value} {i : Nat} (x : TI2 h it t items i) (b : Heap.ExtBut c h h') (n1 : it ≠ c) (n2 : t ≠ c) : TI2 h' it t items i :=
  x.at (fun o e => b _ o n1 e) (fun o e => b _ o n2 e)
end
section
variable {prog : Program} {w : World} {A : Around} {E : Value → Shared → Prop} {s : Shared}
end
def Itzt (K : PySem.W.Frag) (a b : Addr) : It :=
  ⟨fun i H => ∃ xs ys, SqT K H a xs ∧ SqT K H b ys ∧ i < xs.length ∧ i < ys.length,
   fun i H x H' => ∃ T u v, x = .ref T ∧ H T = none ∧ H' = upd H T (.tup [u, v]) ∧ (∀ xs, SqT K H a xs → xs[i]? = some u) ∧ (∀ ys, SqT K H b ys → ys[i]? = some v),
   fun i H => ∃ xs ys, SqT K H a xs ∧ SqT K H b ys ∧ (xs.length ≤ i ∨ ys.length ≤ i)⟩
def iZip2 (K : PySem.W.Frag) (ta : TA) : TI := fun σ H R => ta σ H fun vs H1 => ∃ a b xs ys, vs = [.ref a, .ref b] ∧ ((SqL K H1 a xs ∧ SqL K H1 b ys ∧ R (Itz K a b) H1) ∨ (SqT K H1 a xs ∧ SqT K H1 b ys ∧ R (Itzt K a b) H1))
theorem w_compZ2 {K : PySem.W.Frag} {σ : St} {H : Hp} {Q : VK} {ta : TA} {nt : Nat} {cs : List Nat} {g : TG} {tt : TT} {te : TE} : tComp (iZip2 K ta) nt cs g tt te σ H Q = (ta σ H fun vs H1 => ∃ a b xs ys, vs = [.ref a, .ref b] ∧ ((SqL K H1 a xs ∧ SqL K H1 b ys ∧ CompIt (Itz K a b) nt cs g tt te σ H1 Q) ∨ (SqT K H1 a xs ∧ SqT K H1 b ys ∧ CompIt (Itzt K a b) nt cs g tt te σ H1 Q))) := rfl
end L2
set_option Elab.async false
set_option linter.all false
set_option maxRecDepth 100000
set_option maxHeartbeats 1000000
namespace L2
open PySem PySem.Spec PyProof.Rows
structure Gt (ins : Nat) (ds : List Wd) (gs : List Go) (i : Nat) (ms : List Nat) : Prop where
  sd : ∀ x ∈ ms, Rch ins ds gs x
  rt : ∀ g ∈ gs, g.sg ≠ 0 → g.th ∈ ms
  cl : ∀ k d, ds[k]? = some d → ds.length ≤ k + i → ins + k ∈ ms → d.a ∈ ms ∧ d.b ∈ ms
  ln : ms.length ≤ gs.length + 2 * i
theorem Gt.skip {ins : Nat} {ds : List Wd} {gs : List Go} {i k : Nat} {ms : List Nat} (h : Gt ins ds gs i ms) (hk : k + i + 1 = ds.length) (hn : ins + k ∉ ms) : Gt ins ds gs (i + 1) ms := by
  refine ⟨h.sd, h.rt, fun k' d hd hl hm => ?_, by have := h.ln; omega⟩
  by_cases e : k' = k
  · subst e; exact absurd hm hn
  · exact h.cl k' d hd (by omega) hm
theorem Gt.add {ins : Nat} {ds : List Wd} {gs : List Go} {i k : Nat} {ms : List Nat} {d : Wd} (ok : WebOk ins ds gs) (h : Gt ins ds gs i ms) (hk : k + i + 1 = ds.length) (hd : ds[k]? = some d) (hm : ins + k ∈ ms) : Gt ins ds gs (i + 1) (ms ++ [d.a, d.b]) := by
  obtain ⟨da, db, _⟩ := ok.dk k d hd
  refine ⟨fun x hx => ?_, fun g hg z => List.mem_append_left _ (h.rt g hg z), fun k' d' hd' hl hm' => ?_, by rw [List.length_append]; simp only [List.length_cons, List.length_nil]; have := h.ln; omega⟩
  · rcases List.mem_append.mp hx with z | z
    · exact h.sd x z
    · rcases List.mem_cons.mp z with z | z
      · subst z; exact .fst hd (h.sd _ hm)
      · rw [List.mem_singleton.mp z]; exact .snd hd (h.sd _ hm)
  · by_cases e : k' = k
    · subst e
      rw [hd] at hd'
      cases hd'
      exact ⟨List.mem_append_right _ (by simp), List.mem_append_right _ (by simp)⟩
    · have hm2 : ins + k' ∈ ms := by
        rcases List.mem_append.mp hm' with z | z
        · exact z
        · rcases List.mem_cons.mp z with z | z
          · omega
          · have := List.mem_singleton.mp z; omega
      obtain ⟨p, q⟩ := h.cl k' d' hd' (by omega) hm2
      exact ⟨List.mem_append_left _ p, List.mem_append_left _ q⟩
theorem Gt.done {ins : Nat} {ds : List Wd} {gs : List Go} {ms : List Nat} (h : Gt ins ds gs ds.length ms) (x : Nat) : x ∈ ms ↔ Rch ins ds gs x := by
  refine ⟨h.sd x, fun r => ?_⟩
  induction r with
  | root hg z => exact h.rt _ hg z
  | fst hd _ ih => exact (h.cl _ _ hd (by omega) ih).1
  | snd hd _ ih => exact (h.cl _ _ hd (by omega) ih).2
def kp (bs : List Bool) (ins j : Nat) : Prop := j < ins ∨ bs[j]? = some true
instance (bs : List Bool) (ins j : Nat) : Decidable (kp bs ins j) := by unfold kp; infer_instance
theorem getD_true {bs : List Bool} {j : Nat} : bs.getD j false = true ↔ bs[j]? = some true := by
  rw [List.getD_eq_getElem?_getD]
  cases bs[j]? with
  | none => simp
  | some b => cases b <;> simp
theorem ren_step (bs : List Bool) (ins m : Nat) : renN bs ins (m + 1) = renN bs ins m + (if kp bs ins m then 1 else 0) := by
  by_cases h : m < ins
  · rw [if_pos (show kp bs ins m from Or.inl h)]
    unfold renN
    rw [if_pos h]
    by_cases h2 : m + 1 < ins
    · rw [if_pos h2]
    · rw [if_neg h2, show m + 1 - ins = 0 by omega]
      show ins + 0 = m + 1
      omega
  · by_cases z : bs[m]? = some true
    · rw [if_pos (show kp bs ins m from Or.inr z)]
      unfold renN
      rw [if_neg h, if_neg (by omega), show m + 1 - ins = m - ins + 1 by omega]
      show ins + (keptN bs ins (m - ins) + _) = _
      rw [show ins + (m - ins) = m by omega, if_pos (getD_true.mpr z)]; omega
    · rw [if_neg (show ¬ kp bs ins m by rintro (q | q); exact h q; exact z q)]
      unfold renN
      rw [if_neg h, if_neg (by omega), show m + 1 - ins = m - ins + 1 by omega]
      show ins + (keptN bs ins (m - ins) + _) = _
      rw [show ins + (m - ins) = m by omega, if_neg (fun q => z (getD_true.mp q))]; omega
structure An (bs : List Bool) (ins m : Nat) (kvs : List (Key × V)) : Prop where
  len : kvs.length = renN bs ins m
  val : ∀ j : Nat, valV kvs (.inl (j : Int)) = if j < m ∧ kp bs ins j then some (.int (renN bs ins j : Nat)) else none
theorem An.skip {bs : List Bool} {ins m : Nat} {kvs : List (Key × V)} (h : An bs ins m kvs) (n : ¬ kp bs ins m) : An bs ins (m + 1) kvs := by
  refine ⟨by rw [ren_step, if_neg n]; exact h.len, fun j => ?_⟩
  rw [h.val j]
  by_cases e : j = m
  · subst e
    rw [if_neg (by omega), if_neg (fun z => n z.2)]
  · have : (j < m ∧ kp bs ins j) ↔ (j < m + 1 ∧ kp bs ins j) := by constructor <;> (rintro ⟨a, b⟩; exact ⟨by omega, b⟩)
    simp only [this]
theorem An.new {bs : List Bool} {ins m : Nat} {kvs : List (Key × V)} (h : An bs ins m kvs) : valV kvs (.inl (m : Int)) = none := by rw [h.val m, if_neg (by omega)]
theorem An.add {bs : List Bool} {ins m : Nat} {kvs : List (Key × V)} (h : An bs ins m kvs) (n : kp bs ins m) : An bs ins (m + 1) (putK kvs (.inl (m : Int)) (.int (kvs.length : Nat))) := by
  rw [putK_new _ h.new]
  refine ⟨by rw [List.length_append, ren_step, if_pos n, h.len]; rfl, fun j => ?_⟩
  rw [valV_snoc _ _ _ _ h.new]
  by_cases e : j = m
  · subst e
    rw [if_pos rfl, if_pos ⟨by omega, n⟩, h.len]
  · rw [if_neg (fun z => e (by have := Sum.inl.inj z; omega)), h.val j]
    have : (j < m ∧ kp bs ins j) ↔ (j < m + 1 ∧ kp bs ins j) := by constructor <;> (rintro ⟨a, b⟩; exact ⟨by omega, b⟩)
    simp only [this]
def ZO (gs : List Go) : Prop := ∀ g ∈ gs, g.sg = 0 → g = ⟨0, 0, 0⟩
section
variable {ins : Nat} {ds : List Wd} {gs : List Go} {bs : List Bool}
theorem rch_lt (ok : WebOk ins ds gs) {j : Nat} (h : Rch ins ds gs j) : j < ins + ds.length := by
  induction h with
  | root hg _ => exact ok.gk _ hg
  | fst hd _ ih => have := (ok.dk _ _ hd).1; omega
  | snd hd _ ih => have := (ok.dk _ _ hd).2.1; omega
theorem Us.kp (ok : WebOk ins ds gs) (U : Us ins ds gs bs) {j : Nat} (h : Rch ins ds gs j) : kp bs ins j := .inr ((U.iff j (rch_lt ok h)).mpr h)
end
def AlN (H : Hp) : Nat → V → V → Prop
  | 0, _, _ => False
  | n + 1, x, y => (∃ i, x = .int i ∧ y = .int i) ∨ (∃ i, x = .str i ∧ y = .str i) ∨
    (∃ p q xs ys, x = .ref p ∧ y = .ref q ∧ H p = some (.lst xs) ∧ H q = some (.lst ys) ∧ ys.length = xs.length ∧ xs.length ≤ 1000 ∧ ∀ (i : Nat) u v, xs[i]? = some u → ys[i]? = some v → AlN H n u v) ∨
    (∃ p q xs ys, x = .ref p ∧ y = .ref q ∧ H p = some (.tup xs) ∧ H q = some (.tup ys) ∧ ys.length = xs.length ∧ xs.length ≤ 1000 ∧ ∀ (i : Nat) u v, xs[i]? = some u → ys[i]? = some v → AlN H n u v)
theorem AlN.same {H H' : Hp} (s : Same H H') : ∀ {n : Nat} {x y : V}, AlN H n x y → AlN H' n x y
  | n + 1, x, y, h => by
    rcases h with h | h | ⟨p, q, xs, ys, e1, e2, h1, h2, h3, h4, h5⟩ | ⟨p, q, xs, ys, e1, e2, h1, h2, h3, h4, h5⟩
    · exact .inl h
    · exact .inr (.inl h)
    · exact .inr (.inr (.inl ⟨p, q, xs, ys, e1, e2, s _ _ h1, s _ _ h2, h3, h4, fun i u v a b => AlN.same s (h5 i u v a b)⟩))
    · exact .inr (.inr (.inr ⟨p, q, xs, ys, e1, e2, s _ _ h1, s _ _ h2, h3, h4, fun i u v a b => AlN.same s (h5 i u v a b)⟩))
section
variable {K : PySem.W.Frag} {σ : St} {H : Hp} {Q : VK} {cs : List Nat} {te : TE}
end
def IsWz (H : Hp) (x : V) : Prop := ∃ (w dl gl : Addr) (ins : Nat) (us : List V) (ds : List Wd) (os : List V) (gs : List Go), x = .ref w ∧ Wb H w dl gl ins us ds os gs ∧ WebOk ins ds gs ∧ ZO gs
theorem IsWz.same {H H' : Hp} {x : V} (h : IsWz H x) (s : Same H H') : IsWz H' x := by
  obtain ⟨w, dl, gl, ins, us, ds, os, gs, rfl, W, ok, zo⟩ := h
  exact ⟨w, dl, gl, ins, us, ds, os, gs, rfl, W.same s, ok, zo⟩
end L2
set_option Elab.async false
set_option linter.all false
set_option maxRecDepth 100000
set_option maxHeartbeats 1000000
namespace L2
open PySem PySem.Spec PyProof.Rows
def TrX (h : Heap) (e : Addr) (C : Value) (d : Option Addr) (T : Addr) : Prop :=
  ∃ oe vs oT ts, h.get? e = some oe ∧ oe.cls = C ∧ oe.dict = d ∧ oe.data = .fields vs ∧ vs[1]? = some (.ref T) ∧ T ≠ e ∧ h.get? T = some oT ∧ oT.data = .fields ts ∧ ts[3]? = some .none
structure Lv (fr : List Addr) (e : Addr) (C : Value) (d : Option Addr) (T : Option Addr) (h h' : Heap) : Prop where
  keep : ∀ b o, b ∉ fr → b ≠ e → some b ≠ T → h.get? b = some o → h'.get? b = some o
  slot : ∀ b o, b ∈ fr → h.get? b = some o → ∃ sl, h'.get? b = some { o with slots := sl }
  exc : TrX h' e C d h.objs.size
section
variable {M : Model} {A : Around} {E : Value → Shared → Prop} {s : Shared} {base : Heap} {env : Env} {outer : List Env} {L e : Addr} {oe : Obj} {vs : Array Value} {Q : Unit → Shared → Prop}
end
def CXe (P : Program) (w : World) (base : Heap) : CXT := fun outer H s E e s' => ∃ (x T : Addr) (C : Value) (d : Option Addr) (H' : Hp), e = .ref x ∧ s'.os = s.os ∧ AllBare s'.gens ∧ Un (frs outer) [] H H' s.heap s'.heap ∧ HOk P w H' s'.heap ∧
  TrX s'.heap x C d T ∧ s.heap.get? x = none ∧ s.heap.get? T = none ∧ H' x = none ∧ H' T = none ∧ E C d H'
section
variable {P : Program} {w : World} {K : PySem.W.Frag} {mg : Str → Option Value} {base : Heap} {N : List Str} {qual : Str} {scope : Scope} {f : Addr} {cd : Value} {A : Around} {outer : List Env} {s : Shared} {H : Hp} {E : XK}
end
structure CalX (P : Program) (w : World) (K : PySem.W.Frag) (mg : Str → Option Value) (base : Heap) (k : Nat) (x : Str) (ps : List Str) (sp : Sp) : Prop where
  ex : ∃ (f : Addr) (fd : FuncData), FnOk P w K mg base (CXe P w base) k f fd ps sp ∧ mg x = some (.ref f) ∧ PySem.W.keepIn K (.ref f) = true ∧ Binds K fd ps []
theorem CalX.mono {P : Program} {w : World} {K : PySem.W.Frag} {mg : Str → Option Value} {base : Heap} {j k : Nat} {x : Str} {ps : List Str} {sp : Sp} (C : CalX P w K mg base j x ps sp) (h : j ≤ k) : CalX P w K mg base k x ps sp := by
  obtain ⟨f, fd, a, b, c, d⟩ := C.ex
  exact ⟨f, fd, a.mono h, b, c, d⟩
section
variable {X : Cx} {k : Nat} {x : Str} {ps : List Str} {sp : Sp} {e : Expr} {es : List Expr} {t : TA} {p pos : Pos} {E : XK}
end
section
variable {P : Program} {w : World} {K : PySem.W.Frag} {mg : Str → Option Value} {base : Heap}
end
end L2
set_option Elab.async false
set_option linter.all false
set_option maxRecDepth 100000
set_option maxHeartbeats 1000000
namespace L2
open PySem PySem.Spec PyProof.Rows
theorem exc_obj {K : PySem.W.Frag} {h : Heap} {C : Addr} {bmB : List Value} {newId : String} (X : K.In h) (q : PySem.W.excIn K C bmB newId = true) :
    ∃ bm N nm q bs hdct sn sub ab col dd k0 k1 k2 k3 k5 mN, h.get? C = some (excClassObj nm q C N bs bm hdct sn sub ab col dd k0 k1 k2 k3 k5 newId) ∧ h.Ns N mN ∧ mN "__init__" = none ∧ OwnTail h bmB bm := by
  unfold PySem.W.excIn at q
  split at q
  · rename_i dd cd sl ho
    split at q
    · rename_i C' bm k0 k1 k2 k3 n k5 hm hs
      simp only [Bool.and_eq_true, beq_iff_eq, Bool.not_eq_true'] at q
      obtain ⟨⟨⟨⟨⟨rfl, rfl⟩, hdel⟩, ht⟩, hok⟩, hni⟩ := q
      obtain ⟨nm, bs, mro, ns, qn, hd, sn, sub, ab, col, del⟩ := cd
      dsimp only at hm hdel hok hni
      subst hm hdel
      have hsl : sl = #[k0, k1, k2, k3, some (.builtin n), k5] := by
        obtain ⟨l⟩ := sl
        simp only at hs
        rw [hs]
      subst hsl
      exact ⟨bm, ns, nm, qn, bs, hd, sn, sub, ab, col, dd, k0, k1, k2, k3, k5, _, X _ _ ho, .of_isNs (PySem.W.isNs_of_in X hok), PySem.W.nsMap_none_of_in X hok hni, PySem.W.tail_of_in X ht⟩
    · cases q
  · cases q
theorem ObjOk.there {P : Program} {w : World} {H : Hp} {h : Heap} {a : Addr} {o : HO} (x : ObjOk P w H h a o) : ∃ u, h.get? a = some u := by
  cases o with
  | lst xs => obtain ⟨_, _, _, _, e⟩ := x; exact ⟨_, e⟩
  | tup xs => obtain ⟨_, _, _, o, e, _⟩ := x; exact ⟨_, e⟩
  | dK kvs => obtain ⟨_, _, _, _, o, _, _, e, _⟩ := x; exact ⟨_, e⟩
  | dT kvs => obtain ⟨_, _, _, _, o, _, _, e, _⟩ := x; exact ⟨_, e⟩
  | set S n => obtain ⟨o, _, _, _, e, _⟩ := x; exact ⟨_, e⟩
  | ins C dx fs => obtain ⟨_, _, _, e, _⟩ := x; exact ⟨_, e⟩
  | own y => obtain ⟨_, e⟩ := x; exact ⟨_, e⟩
  | xd fs => obtain ⟨_, ⟨_, _, _, e, _⟩, _⟩ := x; exact ⟨_, e⟩
  | rng lo hi => obtain ⟨_, _, _, e⟩ := x; exact ⟨_, e⟩
  | frz ob u => obtain ⟨e, _⟩ := x; exact ⟨_, e⟩
  | tbl ps => exact ⟨_, show h.get? a = some _ from x⟩
  | met f y => exact ⟨_, show h.get? a = some _ from x⟩
  | ext φ => obtain ⟨_, ⟨_, e⟩, _⟩ := x; exact ⟨_, e⟩
section
variable {M : Model} {A : Around} {E : Value → Shared → Prop}
end
end L2
set_option Elab.async false
set_option linter.all false
set_option maxRecDepth 100000
set_option maxHeartbeats 1000000
namespace L2
open PySem PySem.Spec PyProof.Rows
def XP (X : Cx) (pins : List (Addr × Obj)) (σ : St) (E : XK) (e : Value) (s' : Shared) : Prop := ∃ (x T : Addr) (C : Value) (d : Option Addr) (H' : Hp), e = .ref x ∧ Inv X pins σ H' s' ∧ TrX s'.heap x C d T ∧
  (X.s₀.heap.get? x = none ∧ X.s₀.heap.get? T = none) ∧ (∀ p ∈ X.pn ++ pins, p.1 ≠ x ∧ p.1 ≠ T) ∧ H' x = none ∧ H' T = none ∧ E C d H'
structure LvK (fr : List Addr) (e : Addr) (T : Addr) (h h' : Heap) : Prop where
  keep : ∀ b o, b ∉ fr → b ≠ e → some b ≠ some T → h.get? b = some o → h'.get? b = some o
  slot : ∀ b o, b ∈ fr → h.get? b = some o → ∃ sl, h'.get? b = some { o with slots := sl }
theorem Lv.k {fr : List Addr} {e T : Addr} {C : Value} {d : Option Addr} {h h' : Heap} (l : Lv fr e C d (some T) h h') : LvK fr e T h h' := ⟨l.keep, l.slot⟩
end L2
set_option Elab.async false
set_option linter.all false
set_option maxRecDepth 100000
set_option maxHeartbeats 1000000
namespace L2
open PySem PySem.Spec PyProof.Rows
end L2
set_option Elab.async false
set_option linter.all false
set_option maxRecDepth 100000
set_option maxHeartbeats 1000000
namespace L2
open PySem PySem.Spec PyProof.Rows
section
variable {prog : Program} {w : World} {A : Around} {E : Value → Shared → Prop} {s : Shared} {K : PySem.W.Frag} {x D : Addr} {o : Obj}
end
end L2
set_option Elab.async false
set_option linter.all false
set_option maxRecDepth 100000
set_option maxHeartbeats 1000000
namespace L2
open PySem PySem.Spec PyProof.Rows
theorem PS.nox {X : Cx} {st : Stmt} {t : TS} (h : PS X.nox st t) : PS X st t := fun pins s σ H D I hw =>
  wpAny_mono (h pins s σ H D (I.wish _) hw) (fun _ _ q => q.unwish) fun _ _ z => False.elim z
end L2
set_option Elab.async false
set_option linter.all false
set_option maxRecDepth 100000
set_option maxHeartbeats 1000000
namespace L2
open PySem PySem.Spec
def PPen (H : Hp) (p a : Addr) (c : Int) : Prop := ∃ t l : Int, H p = some (.lst [.int l, .int t, .ref a]) ∧ 0 ≤ t ∧ t ≤ c ∧ 0 ≤ l
theorem PPen.mono {H : Hp} {p a : Addr} {c d : Int} (h : PPen H p a c) (l : c ≤ d) : PPen H p a d := by
  obtain ⟨t, x, e, h0, h1, h2⟩ := h
  exact ⟨t, x, e, h0, by omega, h2⟩
theorem PPen.same {H H' : Hp} {p a : Addr} {c : Int} (h : PPen H p a c) (s : Same H H') : PPen H' p a c := by
  obtain ⟨t, x, e, r⟩ := h
  exact ⟨t, x, s _ _ e, r⟩
theorem PPen.lst {H : Hp} {p a : Addr} {c : Int} (h : PPen H p a c) : ∃ xs, H p = some (.lst xs) := by
  obtain ⟨t, x, e, r⟩ := h
  exact ⟨_, e⟩
theorem PPen.ne {H : Hp} {p a q : Addr} {c : Int} (h : PPen H p a c) (hq : H q = none) : q ≠ p := by
  obtain ⟨xs, h⟩ := h.lst
  exact (ne_of_none h hq).symm
theorem PPen.chg {H H' : Hp} {p a q : Addr} {c : Int} (h : PPen H p a c) (n : p ≠ q) (s : Chg q H H') : PPen H' p a c := by
  obtain ⟨t, x, e, r⟩ := h
  exact ⟨t, x, s _ _ n e, r⟩
def wrI (n w : Int) : Int := (n + 2 ^ (w - 1).toNat) % 2 ^ w.toNat - 2 ^ (w - 1).toNat
theorem wr_mod {n w : Int} (h : 1 ≤ w) : (wrI n w - n) % 2 ^ w.toNat = 0 := by
  unfold wrI
  have e := Int.emod_add_mul_ediv (n + 2 ^ (w - 1).toNat) (2 ^ w.toNat)
  have : (n + 2 ^ (w - 1).toNat) % 2 ^ w.toNat - 2 ^ (w - 1).toNat - n = 2 ^ w.toNat * -((n + 2 ^ (w - 1).toNat) / 2 ^ w.toNat) := by rw [Int.mul_neg]; omega
  rw [this, Int.mul_emod_right]
end L2
set_option Elab.async false
set_option linter.all false
set_option maxRecDepth 100000
set_option maxHeartbeats 1000000
namespace L2
open PySem PySem.Spec
structure DKR (H : Hp) (kvs : List (Key × V)) (fd : List (Int × Int)) : Prop where
  len : kvs.length = fd.length
  no : ∀ c, fd.lookup c = none → valV kvs (.inl c) = none
  at_ : ∀ c k, fd.lookup c = some k → ∃ r, valV kvs (.inl c) = some (.ref r) ∧ H r = some (.tup [.int k, .int 0, .int 1])
theorem DKR.nil {H : Hp} : DKR H [] [] := ⟨rfl, fun _ _ => rfl, fun _ _ z => by cases z⟩
theorem DKR.same {H H' : Hp} {kvs : List (Key × V)} {fd : List (Int × Int)} (h : DKR H kvs fd) (s : Same H H') : DKR H' kvs fd := ⟨h.len, h.no, fun c k e => by
  obtain ⟨r, e1, e2⟩ := h.at_ c k e
  exact ⟨r, e1, s _ _ e2⟩⟩
theorem DKR.chgL {H H' : Hp} {kvs : List (Key × V)} {fd : List (Int × Int)} {l : Addr} {us : List V} (h : DKR H kvs fd) (hl : H l = some (.lst us)) (s : Chg l H H') : DKR H' kvs fd := ⟨h.len, h.no, fun c k e => by
  obtain ⟨r, e1, e2⟩ := h.at_ c k e
  exact ⟨r, e1, s _ _ (ne_of e2 hl (by intro z; cases z)) e2⟩⟩
theorem DKR.put {H : Hp} {kvs : List (Key × V)} {fd : List (Int × Int)} {c k : Int} {r : Addr} (h : DKR H kvs fd) (hn : fd.lookup c = none) (hr : H r = some (.tup [.int k, .int 0, .int 1])) : DKR H (putK kvs (.inl c) (.ref r)) (fd ++ [(c, k)]) := by
  have e := h.no c hn
  refine ⟨?_, fun d hd => ?_, fun d m hd => ?_⟩
  · rw [putK_new _ e, List.length_append, List.length_append, h.len]
    rfl
  · rw [lk_app] at hd
    by_cases z : d = c
    · rw [if_pos z] at hd
      cases h2 : fd.lookup d <;> rw [h2] at hd <;> cases hd
    · rw [if_neg z] at hd
      rw [valV_put, if_neg (fun y => z (Sum.inl.inj y))]
      refine h.no d ?_
      cases h2 : fd.lookup d with
      | none => rfl
      | some x => rw [h2] at hd; cases hd
  · rw [lk_app] at hd
    by_cases z : d = c
    · subst z
      rw [hn, if_pos rfl] at hd
      cases hd
      exact ⟨r, by rw [valV_put, if_pos rfl], hr⟩
    · rw [if_neg z] at hd
      rw [valV_put, if_neg (fun y => z (Sum.inl.inj y))]
      refine h.at_ d m ?_
      cases h2 : fd.lookup d with
      | none => rw [h2] at hd; cases hd
      | some x => rw [h2] at hd; exact hd
end L2
set_option Elab.async false
set_option linter.all false
set_option maxRecDepth 100000
set_option maxHeartbeats 1000000
namespace L2
open PySem PySem.Spec
def Sh1 (s x : Int) : Prop := -40 ≤ s ∧ s ≤ 40 ∧ (s < 0 → (2 : Int) ^ (-s).toNat ∣ x)
def valD (vs : List Int) (d : Wd) : Int := mvI d.s (vs.getD d.a 0) + sgW d.w * mvI d.t (vs.getD d.b 0)
def valsW (xs : List Int) (ds : List Wd) : List Int := ds.foldl (fun vs d => vs ++ [valD vs d]) xs
theorem valsW_snoc (xs : List Int) (ds : List Wd) (d : Wd) : valsW xs (ds ++ [d]) = valsW xs ds ++ [valD (valsW xs ds) d] := by unfold valsW; rw [List.foldl_append]; rfl
theorem valsW_len (xs : List Int) (ds : List Wd) : (valsW xs ds).length = xs.length + ds.length := by
  refine snoc_ind (p := fun ds => (valsW xs ds).length = xs.length + ds.length) rfl (fun ys y ih => ?_) ds
  rw [valsW_snoc, List.length_append, ih]; simp; omega
theorem valsW_pre (xs : List Int) (ds new : List Wd) {k : Nat} {r : Int} (h : (valsW xs ds)[k]? = some r) : (valsW xs (ds ++ new))[k]? = some r := by
  refine snoc_ind (p := fun new => (valsW xs (ds ++ new))[k]? = some r) (by rw [List.append_nil]; exact h) (fun ys y ih => ?_) new
  rw [← List.append_assoc, valsW_snoc, List.getElem?_append_left (List.getElem?_eq_some_iff.mp ih).1]
  exact ih
theorem valsW_take {xs : List Int} {ds : List Wd} {i : Nat} {d : Wd} (hd : ds[i]? = some d) : valsW xs (ds.take (i + 1)) = valsW xs (ds.take i) ++ [valD (valsW xs (ds.take i)) d] := by
  rw [List.take_add_one, hd]
  exact valsW_snoc _ _ _
structure VOk (xs : List Int) (ds : List Wd) : Prop where
  dk : ∀ (k : Nat) (d : Wd), ds[k]? = some d → d.a < xs.length + k ∧ d.b < xs.length + k ∧ Sh1 d.s ((valsW xs ds).getD d.a 0) ∧ Sh1 d.t ((valsW xs ds).getD d.b 0)
  vb : ∀ v ∈ valsW xs ds, v.natAbs < 2 ^ 9000
  xl : xs.length ≤ 12
  dl : ds.length ≤ 60
end L2
set_option Elab.async false
set_option linter.all false
set_option maxRecDepth 100000
set_option maxHeartbeats 1000000
namespace L2
open PySem PySem.Spec
structure VI (H : Hp) (p : Addr) (tb dl : Addr) (us : List V) (ds : List Wd) (H' : Hp) : Prop where
  tbl : H' tb = some (.lst ((valsW [1] ds).map V.int))
  dll : H' dl = some (.lst us)
  hds : HTs wTup H' us ds
  dk : ∀ (k : Nat) (d : Wd), ds[k]? = some d → d.a < 1 + k ∧ d.b < 1 + k ∧ Sh1 d.s ((valsW [1] ds).getD d.a 0) ∧ Sh1 d.t ((valsW [1] ds).getD d.b 0) ∧ (d.w = "sum" ∨ d.w = "less")
  vb : ∀ v ∈ valsW [1] ds, v.natAbs ≤ 2 ^ (41 * ds.length)
  chg : Chg p H H'
  ntb : H tb = none
  ndl : H dl = none
  tp : tb ≠ p
  dp : dl ≠ p
  td : tb ≠ dl
theorem VI.step {H : Hp} {p a : Addr} {c : Int} {tb dl : Addr} {us : List V} {ds : List Wd} {H' H'' : Hp} (h : VI H p tb dl us ds H') (P : PPen H' p a c) (C : Chg p H' H'') : VI H p tb dl us ds H'' := by
  obtain ⟨xs, hp⟩ := P.lst
  exact { h with tbl := C _ _ h.tp h.tbl, dll := C _ _ h.dp h.dll, hds := h.hds.chgL hp C, chg := h.chg.trans C }
theorem VI.updN {H : Hp} {p : Addr} {tb dl l : Addr} {us zs : List V} {ds : List Wd} {H' : Hp} {o : HO} (h : VI H p tb dl us ds H') (hl : H' l = some (.lst zs)) (nl : H l = none) (h1 : tb ≠ l) (h2 : dl ≠ l) : VI H p tb dl us ds (upd H' l o) :=
  { h with tbl := by rw [upd_ne h1]; exact h.tbl, dll := by rw [upd_ne h2]; exact h.dll, hds := h.hds.chgL hl (Chg.upd _), chg := Chg.updN h.chg nl }
theorem valsW_at {xs : List Int} {ds : List Wd} {j : Nat} (h : j < xs.length + ds.length) : ∃ x, (valsW xs ds)[j]? = some x ∧ (valsW xs ds).getD j 0 = x ∧ x ∈ valsW xs ds := by
  have e := List.getElem?_eq_getElem (l := valsW xs ds) (i := j) (by rw [valsW_len]; exact h)
  exact ⟨_, e, getD_of e, List.mem_of_getElem? e⟩
theorem valsW_stay {xs : List Int} {ds : List Wd} {d : Wd} {j : Nat} (h : j < xs.length + ds.length) : (valsW xs (ds ++ [d])).getD j 0 = (valsW xs ds).getD j 0 := by
  obtain ⟨x, e, e2, _⟩ := valsW_at h
  rw [e2, getD_of (valsW_pre xs ds [d] e)]
theorem VI.ok {H : Hp} {p : Addr} {tb dl : Addr} {us : List V} {ds : List Wd} {H' : Hp} (h : VI H p tb dl us ds H') (h60 : ds.length ≤ 60) : VOk [1] ds :=
  ⟨fun k d e => by obtain ⟨a, b, c, f, _⟩ := h.dk k d e; exact ⟨a, b, c, f⟩, fun v hv => Nat.lt_of_le_of_lt (h.vb v hv) (Nat.pow_lt_pow_right (by decide) (by omega)), by decide, h60⟩
end L2
set_option Elab.async false
set_option linter.all false
set_option maxRecDepth 100000
set_option maxHeartbeats 1000000
namespace L2
open PySem PySem.Spec
def dotW : List Int → List Int → Int
  | a :: r, x :: xs => a * x + dotW r xs
  | _, _ => 0
theorem dotW_nil (xs : List Int) : dotW [] xs = 0 := by cases xs <;> rfl
theorem dotW_dvd {k : Nat} : ∀ (r xs : List Int), (∀ n ∈ r, (2 : Int) ^ k ∣ n) → (2 : Int) ^ k ∣ dotW r xs
  | [], xs, _ => by rw [dotW_nil]; exact Int.dvd_zero _
  | a :: r, [], _ => by show _ ∣ (0 : Int); exact Int.dvd_zero _
  | a :: r, x :: xs, h => by
    show _ ∣ a * x + dotW r xs
    exact Int.dvd_add (Int.dvd_trans (h a (List.mem_cons_self ..)) (Int.dvd_mul_right _ _)) (dotW_dvd r xs fun n hn => h n (List.mem_cons_of_mem _ hn))
theorem Sh.one {s : Int} {r xs : List Int} (h : Sh s r) : Sh1 s (dotW r xs) := ⟨h.1, h.2.1, fun z => dotW_dvd r xs (h.2.2 z)⟩
def outV (vs : List Int) (g : Go) : Int := g.sg * mvI g.sh (vs.getD g.th 0)
end L2
set_option Elab.async false
set_option linter.all false
set_option maxRecDepth 100000
set_option maxHeartbeats 1000000
namespace L2
open PySem PySem.Spec PyProof PyProof.Rows
section
variable {P : Program} {w : World} {A : Around} {E : Value → Shared → Prop} {s : Shared}
end
section
variable {X : Cx}
end
end L2
set_option Elab.async false
set_option linter.all false
set_option maxRecDepth 100000
set_option maxHeartbeats 1000000
namespace L2
open PySem PySem.Spec
section
variable {K : PySem.W.Frag} {σ : St} {H : Hp} {D : Ends} {g : TG} {tb : TS} {a b : Addr}
end
section
variable {K : PySem.W.Frag} {σ : St} {H : Hp} {Q : VK} {cs : List Nat} {te : TE}
end
end L2
set_option Elab.async false
set_option linter.all false
set_option maxRecDepth 100000
set_option maxHeartbeats 1000000
namespace L2
open PySem PySem.Spec
def vGD (g : Int → Int → Int → Int → Int) (z : Int) (vs : List Int) (d : Wd) : Int := g (g z d.s 1 (vs.getD d.a 0)) d.t (sgW d.w) (vs.getD d.b 0)
def vG (g : Int → Int → Int → Int → Int) (z : Int) (xs : List Int) (ds : List Wd) : List Int := ds.foldl (fun vs d => vs ++ [vGD g z vs d]) xs
section
variable {g : Int → Int → Int → Int → Int} {z : Int}
theorem vG_snoc (xs : List Int) (ds : List Wd) (d : Wd) : vG g z xs (ds ++ [d]) = vG g z xs ds ++ [vGD g z (vG g z xs ds) d] := by unfold vG; rw [List.foldl_append]; rfl
theorem vG_len (xs : List Int) (ds : List Wd) : (vG g z xs ds).length = xs.length + ds.length := by
  refine snoc_ind (p := fun ds => (vG g z xs ds).length = xs.length + ds.length) rfl (fun ys y ih => ?_) ds
  rw [vG_snoc, List.length_append, ih]; simp; omega
theorem vG_pre (xs : List Int) (ds new : List Wd) {k : Nat} {r : Int} (h : (vG g z xs ds)[k]? = some r) : (vG g z xs (ds ++ new))[k]? = some r := by
  refine snoc_ind (p := fun new => (vG g z xs (ds ++ new))[k]? = some r) (by rw [List.append_nil]; exact h) (fun ys y ih => ?_) new
  rw [← List.append_assoc, vG_snoc, List.getElem?_append_left (List.getElem?_eq_some_iff.mp ih).1]
  exact ih
end
section
variable {g : Int → Int → Int → Int → Int} {z : Int}
end
def shIn (w s x : Int) : Int := if 0 ≤ s then wrI (x * 2 ^ s.toNat) w else x / 2 ^ (-s).toNat
def Eqm (b : Int) (x y : Int) : Prop := (2 : Int) ^ b.toNat ∣ x - y
theorem Eqm.less {b c x y : Int} (h : Eqm b x y) (l : c ≤ b) : Eqm c x y := by
  refine Int.dvd_trans ?_ h
  rw [show b.toNat = c.toNat + (b.toNat - c.toNat) by omega, Int.pow_add]
  exact Int.dvd_mul_right _ _
theorem Eqm.add {b x y u v : Int} (h : Eqm b x y) (k : Eqm b u v) (g : Int) : Eqm b (x + g * u) (y + g * v) := by
  show _ ∣ x + g * u - (y + g * v)
  rw [show x + g * u - (y + g * v) = (x - y) + g * (u - v) by rw [Int.mul_sub]; omega]
  exact Int.dvd_add h (Int.dvd_trans k (Int.dvd_mul_left _ _))
theorem Eqm.wr {w b x : Int} (h : 1 ≤ w) (hb : b ≤ w) : Eqm b (wrI x w) x := Eqm.less (b := w) (Int.dvd_of_emod_eq_zero (wr_mod h)) hb
theorem Eqm.trans {b x y z : Int} (h : Eqm b x y) (k : Eqm b y z) : Eqm b x z := by
  show _ ∣ x - z
  rw [show x - z = (x - y) + (y - z) by omega]
  exact Int.dvd_add h k
theorem Eqm.zero {b x y : Int} (h : b ≤ 0) : Eqm b x y := by
  show (2 : Int) ^ b.toNat ∣ _
  rw [show b.toNat = 0 by omega, Int.pow_zero]
  exact Int.one_dvd _
theorem Eqm.part {w b x y s : Int} (h1 : 1 ≤ w) (h : Eqm b x y) (b0 : 0 ≤ b) (hs : Sh1 s y) : Eqm (min w (b + s)) (shIn w s x) (mvI s y) := by
  unfold shIn
  by_cases z : 0 ≤ s
  · rw [if_pos z, mvI_up z]
    refine (Eqm.wr h1 (by omega)).trans (Eqm.less (b := b + s) ?_ (by omega))
    show _ ∣ x * 2 ^ s.toNat - y * 2 ^ s.toNat
    rw [← Int.sub_mul, show (b + s).toNat = b.toNat + s.toNat by omega, Int.pow_add]
    exact Int.mul_dvd_mul h (Int.dvd_refl _)
  · rw [if_neg z, mvI_down (by omega)]
    by_cases c : b + s ≤ 0
    · exact Eqm.zero (by omega)
    · refine Eqm.less (b := b + s) ?_ (by omega)
      obtain ⟨m, hm⟩ := hs.2.2 (by omega)
      obtain ⟨q, hq⟩ := h
      have pp := pow_pos2 (-s).toNat
      have e : x = 2 ^ (-s).toNat * (m + 2 ^ (b + s).toNat * q) := by
        rw [Int.mul_add, ← hm, ← Int.mul_assoc, ← Int.pow_add, show (-s).toNat + (b + s).toNat = b.toNat by omega]
        omega
      show _ ∣ x / 2 ^ (-s).toNat - y / 2 ^ (-s).toNat
      rw [e, hm, Int.mul_ediv_cancel_left _ (Int.ne_of_gt pp), Int.mul_ediv_cancel_left _ (Int.ne_of_gt pp)]
      exact ⟨q, by omega⟩
theorem Eqm.up {w b c x y s : Int} (h1 : 1 ≤ w) (h : Eqm b x y) (b0 : 0 ≤ b) (hs : Sh1 s y) (hc : c ≤ w) (hc2 : c ≤ max 0 (b + s)) : Eqm c (shIn w s x) (mvI s y) := by
  by_cases z : 0 ≤ b + s
  · exact (Eqm.part h1 h b0 hs).less (by omega)
  · exact Eqm.zero (by omega)
end L2
set_option Elab.async false
set_option linter.all false
set_option maxRecDepth 100000
set_option maxHeartbeats 1000000
namespace L2
open PySem PySem.Spec
end L2
set_option Elab.async false
set_option linter.all false
set_option maxRecDepth 100000
set_option maxHeartbeats 1000000
namespace L2
open PySem PySem.Spec
section
variable {K : PySem.W.Frag} {σ : St} {H : Hp} {Q : VK} {cs : List Nat} {te : TE}
end
end L2
set_option Elab.async false
set_option linter.all false
set_option maxRecDepth 100000
set_option maxHeartbeats 1000000
namespace L2
open PySem PySem.Spec PyProof.Rows
structure Far3 (z TI TO i1 i2 i3 l1 l2 l3 : Addr) : Prop where
  a1 : @LT.lt Nat _ l1 i1
  a2 : @LT.lt Nat _ l2 i1
  a3 : @LT.lt Nat _ l3 i1
  a4 : @LT.lt Nat _ i1 i2
  a5 : @LT.lt Nat _ i2 i3
  a6 : @LT.lt Nat _ i3 TI
  a7 : @LT.lt Nat _ TI TO
  a8 : @LT.lt Nat _ TO z
structure Ne3 (z TI TO i1 i2 i3 l1 l2 l3 : Addr) : Prop where
  TIz : TI ≠ z
  TOz : TO ≠ z
  i1z : i1 ≠ z
  i2z : i2 ≠ z
  i3z : i3 ≠ z
  TITO : TI ≠ TO
  TIi1 : TI ≠ i1
  TIi2 : TI ≠ i2
  TIi3 : TI ≠ i3
  TOi1 : TO ≠ i1
  TOi2 : TO ≠ i2
  TOi3 : TO ≠ i3
  i12 : i1 ≠ i2
  i13 : i1 ≠ i3
  i23 : i2 ≠ i3
  l1z : l1 ≠ z
  l2z : l2 ≠ z
  l3z : l3 ≠ z
  l1i1 : l1 ≠ i1
  l2i1 : l2 ≠ i1
  l2TO : l2 ≠ TO
  l3i1 : l3 ≠ i1
  l3i2 : l3 ≠ i2
  l3TO : l3 ≠ TO
  l2i2 : l2 ≠ i2
theorem Far3.ne {z TI TO i1 i2 i3 l1 l2 l3 : Addr} (D : Far3 z TI TO i1 i2 i3 l1 l2 l3) : Ne3 z TI TO i1 i2 i3 l1 l2 l3 := by
  obtain ⟨q1, q2, q3, q4, q5, q6, q7, q8⟩ := D
  constructor <;> (show ¬ @Eq Nat _ _; omega)
section
variable {prog : Program} {w : World} {A : Around} {E : Value → Shared → Prop} {s : Shared}
end
section
variable {prog : Program} {w : World} {A : Around} {E : Value → Shared → Prop} {s : Shared}
end
section
variable {K : PySem.W.Frag} {σ : St} {H : Hp} {D : Ends} {g : TG} {tb : TS} {a b c : Addr}
end
end L2
set_option Elab.async false
set_option linter.all false
set_option maxRecDepth 100000
set_option maxHeartbeats 1000000
namespace L2
open PySem PySem.Spec
theorem pow2_le {k n : Nat} (h : k ≤ n) : (2 : Int) ^ k ≤ 2 ^ n := by
  have := Nat.pow_le_pow_right (n := 2) (by decide) h
  exact_mod_cast this
end L2
set_option Elab.async false
set_option linter.all false
set_option maxRecDepth 100000
set_option maxHeartbeats 1000000
namespace L2
open PySem PySem.Spec PyProof PyProof.Rows
section
variable {prog : Program} {w : World} {A : Around} {E : Value → Shared → Prop} {s : Shared}
end
section
variable {prog : Program} {w : World} {A : Around} {E : Value → Shared → Prop} {s : Shared}
end
section
variable {K : PySem.W.Frag} {σ : St} {H : Hp} {Q : VK} {cs : List Nat} {te : TE}
end
section
variable {X : Cx}
end
end L2
set_option Elab.async false
set_option linter.all false
set_option maxRecDepth 100000
set_option maxHeartbeats 1000000
namespace L2
open PySem PySem.Spec
def Lies (w x : Int) : Prop := -(2 ^ (w - 1).toNat) ≤ x ∧ x < 2 ^ (w - 1).toNat
instance (w x : Int) : Decidable (Lies w x) := by unfold Lies; infer_instance
theorem Lies.more {w v x : Int} (h : Lies w x) (hw : w ≤ v) : Lies v x := by
  have := pow2_le (k := (w - 1).toNat) (n := (v - 1).toNat) (by omega)
  obtain ⟨a, b⟩ := h
  exact ⟨by omega, by omega⟩
def nz (ns : List Int) : List Int := ns.filter fun n => decide (n ≠ 0)
end L2
set_option Elab.async false
set_option linter.all false
set_option maxRecDepth 100000
set_option maxHeartbeats 1000000
namespace L2
open PySem PySem.Spec
theorem rows_vals {ds : List Wd} (hk : ∀ (k : Nat) (d : Wd), ds[k]? = some d → d.a < 1 + k ∧ d.b < 1 + k) : ∀ i, i ≤ ds.length → rowsW 1 (ds.take i) = (valsW [1] (ds.take i)).map fun x => [x]
  | 0, _ => by rw [List.take_zero]; rfl
  | i + 1, h => by
    have ih := rows_vals hk i (by omega)
    have hd : ds[i]? = some (ds[i]'(by omega)) := List.getElem?_eq_getElem _
    generalize ds[i]'(by omega) = d at hd
    obtain ⟨da, db⟩ := hk i d hd
    rw [rowsW_take hd, valsW_take hd, ih, List.map_append]
    congr 1
    have vl : (valsW [1] (ds.take i)).length = 1 + i := by rw [valsW_len, List.length_take, Nat.min_eq_left (by omega)]; rfl
    have ga : ∀ j, j < 1 + i → ((valsW [1] (ds.take i)).map fun x => [x]).getD j [] = [(valsW [1] (ds.take i)).getD j 0] := fun j hj => by
      rw [List.getD_eq_getElem?_getD, List.getD_eq_getElem?_getD, List.getElem?_map, List.getElem?_eq_getElem (by omega)]
      rfl
    show [rowD _ d] = [[valD _ d]]
    unfold rowD valD
    rw [ga _ da, ga _ db]
    rfl
theorem VI.web {H : Hp} {p : Addr} {tb dl : Addr} {us : List V} {ds : List Wd} {gs : List Go} {H' : Hp} (h : VI H p tb dl us ds H') (h60 : ds.length ≤ 60) (hg : gs.length ≤ 12) (hgo : ∀ g ∈ gs, g.th < 1 + ds.length ∧ (g = ⟨0, 0, 0⟩ ∨ ((g.sg = 1 ∨ g.sg = -1) ∧ Sh1 g.sh ((valsW [1] ds).getD g.th 0)))) : FWeb 1 ds gs := by
  have hk : ∀ (k : Nat) (d : Wd), ds[k]? = some d → d.a < 1 + k ∧ d.b < 1 + k := fun k d e => by obtain ⟨a, b, _⟩ := h.dk k d e; exact ⟨a, b⟩
  have er : rowsW 1 ds = (valsW [1] ds).map fun x => [x] := by
    have := rows_vals hk ds.length (Nat.le_refl _)
    rwa [List.take_length] at this
  have vl : (valsW [1] ds).length = 1 + ds.length := valsW_len _ _
  have ga : ∀ j, j < 1 + ds.length → (rowsW 1 ds).getD j [] = [(valsW [1] ds).getD j 0] := fun j hj => by
    rw [er, List.getD_eq_getElem?_getD, List.getD_eq_getElem?_getD, List.getElem?_map, List.getElem?_eq_getElem (by omega)]
    rfl
  have sh1 : ∀ s x, Sh1 s x → Sh s [x] := fun s x q => ⟨q.1, q.2.1, fun z y hy => by rw [List.mem_singleton.mp hy]; exact q.2.2 z⟩
  refine ⟨⟨by decide, by decide, fun k d e => ?_, fun g hm => (hgo g hm).1, h60, hg⟩, fun k d e => ?_, fun g hm => ?_, fun r hr => ?_, fun r hr => ?_⟩
  · obtain ⟨a, b, _, _, c⟩ := h.dk k d e
    exact ⟨a, b, c⟩
  · obtain ⟨a, b, c, f, _⟩ := h.dk k d e
    have hkl := (List.getElem?_eq_some_iff.mp e).1
    rw [ga _ (by omega), ga _ (by omega)]
    exact ⟨a, b, sh1 _ _ c, sh1 _ _ f⟩
  · obtain ⟨a, b⟩ := hgo g hm
    rcases b with b | ⟨b, c⟩
    · exact .inl b
    · refine .inr ⟨b, ?_⟩
      rw [ga _ a]
      exact sh1 _ _ c
  · rw [er] at hr
    obtain ⟨x, hx, rfl⟩ := List.mem_map.mp hr
    exact ⟨by simp, fun n hn => by rw [List.mem_singleton.mp hn]; exact h.vb x hx⟩
  · rw [er] at hr
    obtain ⟨x, hx, rfl⟩ := List.mem_map.mp hr
    rfl
end L2
set_option Elab.async false
set_option linter.all false
set_option maxRecDepth 100000
set_option maxHeartbeats 1000000
namespace L2
open PySem PySem.Spec
def Box : List (Int × Int) → List Int → Prop
  | [], [] => True
  | p :: ps, x :: xs => (p.1 ≤ x ∧ x ≤ p.2) ∧ Box ps xs
  | _, _ => False
theorem Box.len : ∀ {ps : List (Int × Int)} {xs : List Int}, Box ps xs → xs.length = ps.length
  | [], [], _ => rfl
  | _ :: _, _ :: _, h => by rw [List.length_cons, List.length_cons, Box.len h.2]
  | [], _ :: _, h => by cases h
  | _ :: _, [], h => by cases h
theorem Box.snoc : ∀ {ps : List (Int × Int)} {xs : List Int} {p : Int × Int} {x : Int}, Box ps xs → (p.1 ≤ x ∧ x ≤ p.2) → Box (ps ++ [p]) (xs ++ [x])
  | [], [], p, x, _, h => ⟨h, trivial⟩
  | _ :: _, _ :: _, p, x, h1, h => ⟨h1.1, Box.snoc h1.2 h⟩
  | [], _ :: _, _, _, h1, _ => by cases h1
  | _ :: _, [], _, _, h1, _ => by cases h1
def LL (H : Hp) (l : Addr) (cs : List (List Int)) : Prop := ∃ vs, H l = some (.lst vs) ∧ vs.length = cs.length ∧ ∀ (i : Nat) (c : List Int), cs[i]? = some c → ∃ p, vs[i]? = some (.ref p) ∧ p ≠ l ∧ H p = some (.lst (c.map V.int))
end L2
set_option Elab.async false
set_option linter.all false
set_option maxRecDepth 100000
set_option maxHeartbeats 1000000
namespace L2
open PySem PySem.Spec
end L2
set_option Elab.async false
set_option linter.all false
set_option maxRecDepth 100000
set_option maxHeartbeats 1000000
namespace L2
open PySem PySem.Spec
theorem LL.same {H H' : Hp} {l : Addr} {cs : List (List Int)} (h : LL H l cs) (s : Same H H') : LL H' l cs := by
  obtain ⟨vs, h1, h2, h3⟩ := h
  refine ⟨vs, s _ _ h1, h2, fun i c hc => ?_⟩
  obtain ⟨p, a, b, d⟩ := h3 i c hc
  exact ⟨p, a, b, s _ _ d⟩
section
variable {K : PySem.W.Frag} {σ : St} {H : Hp} {Q : VK} {cs : List Nat} {te : TE}
end
end L2
set_option Elab.async false
set_option linter.all false
set_option maxRecDepth 100000
set_option maxHeartbeats 1000000
namespace L2
open PySem PySem.Spec
section
variable {K : PySem.W.Frag} {σ : St} {H : Hp} {Q : VK} {cs : List Nat} {te : TE}
end
end L2
set_option Elab.async false
set_option linter.all false
set_option maxRecDepth 100000
set_option maxHeartbeats 1000000
namespace L2
open PySem PySem.Spec PyProof.Rows
def Prt (K : PySem.W.Frag) (H : Hp) (v : V) : Prop := ∃ (p : Addr) (a b c : Int), v = .ref p ∧ SqT K H p [.int a, .int b, .int c] ∧ (c = 0 ∨ c = 1 ∨ c = -1)
def PrtN (H : Hp) (n : Nat) (v : V) : Prop := ∃ (p : Addr) (a b c : Int), v = .ref p ∧ H p = some (.tup [.int a, .int b, .int c]) ∧ 0 ≤ a ∧ a < n ∧ (c = 0 ∨ c = 1 ∨ c = -1)
theorem Prt.same {K : PySem.W.Frag} {H H' : Hp} {v : V} (h : Prt K H v) (s : Same H H') : Prt K H' v := by
  obtain ⟨p, a, b, c, e, h1, h2⟩ := h
  exact ⟨p, a, b, c, e, s.seqT h1, h2⟩
theorem PrtN.same {H H' : Hp} {n : Nat} {v : V} (h : PrtN H n v) (s : Same H H') : PrtN H' n v := by
  obtain ⟨p, a, b, c, e, h1, h2⟩ := h
  exact ⟨p, a, b, c, e, s _ _ h1, h2⟩
theorem PrtN.pt {K : PySem.W.Frag} {H : Hp} {n : Nat} {v : V} (h : PrtN H n v) : Prt K H v := by
  obtain ⟨p, a, b, c, e, h1, h2, h3, h4⟩ := h
  exact ⟨p, a, b, c, e, SqT.of h1, h4⟩
theorem PrtN.mono {H : Hp} {n m : Nat} {v : V} (h : PrtN H n v) (l : n ≤ m) : PrtN H m v := by
  obtain ⟨p, a, b, c, e, h1, h2, h3, h4⟩ := h
  exact ⟨p, a, b, c, e, h1, h2, by omega, h4⟩
theorem sqT_chg {K : PySem.W.Frag} {H H' : Hp} {l p : Addr} {xs ys : List V} (h : SqT K H p xs) (hl : H l = some (.lst ys)) (C : Chg l H H') : SqT K H' p xs := by
  rcases h with (h | ⟨o, h⟩) | h
  · exact .inl (.inl (C _ _ (ne_of h hl (by intro z; cases z)) h))
  · exact .inl (.inr ⟨o, C _ _ (ne_of h hl (by intro z; cases z)) h⟩)
  · exact .inr h
theorem Prt.chg {K : PySem.W.Frag} {H H' : Hp} {l : Addr} {ys : List V} {v : V} (h : Prt K H v) (hl : H l = some (.lst ys)) (C : Chg l H H') : Prt K H' v := by
  obtain ⟨p, a, b, c, e, h1, h2⟩ := h
  exact ⟨p, a, b, c, e, sqT_chg h1 hl C, h2⟩
structure WbJ (H : Hp) (x dl gl : Addr) (ins : Nat) (us : List V) (ds : List Wd) (os : List V) : Prop where
  tup : H x = some (.tup [.int ins, .ref dl, .ref gl])
  dll : H dl = some (.lst us)
  hds : HTs wTup H us ds
  gll : H gl = some (.lst os)
  go : ∀ v ∈ os, PrtN H (ins + ds.length) v
  dk : ∀ (k : Nat) (d : Wd), ds[k]? = some d → d.a < ins + k ∧ d.b < ins + k ∧ (d.w = "sum" ∨ d.w = "less")
  dl6 : ds.length ≤ 6
  ol : os.length ≤ 12
  i1 : 1 ≤ ins
  i12 : ins ≤ 12
theorem WbJ.same {H H' : Hp} {x dl gl : Addr} {ins : Nat} {us : List V} {ds : List Wd} {os : List V} (h : WbJ H x dl gl ins us ds os) (s : Same H H') : WbJ H' x dl gl ins us ds os :=
  ⟨s _ _ h.tup, s _ _ h.dll, h.hds.same s, s _ _ h.gll, fun v hv => (h.go v hv).same s, h.dk, h.dl6, h.ol, h.i1, h.i12⟩
end L2
set_option Elab.async false
set_option linter.all false
set_option maxRecDepth 100000
set_option maxHeartbeats 1000000
namespace L2
open PySem PySem.Spec PyProof.Rows
def rNotB : R2 := fun x y H Q => ∃ c, y = .bl c ∧ ((∃ b, x = .bl b ∧ Q (.bl (!decide (b = c))) H) ∨ (x = .non ∧ Q (.bl true) H))
theorem op_notB {X : Cx} : OpR X (compareOp .IsNot) rNotB := by
  rintro pins s σ H x y v u Q I r1 r2 ⟨c, rfl, h⟩
  cases r2
  rcases h with ⟨b, rfl, q⟩ | ⟨rfl, q⟩
  · cases r1
    refine wpAny_isNot_plain rfl ⟨.bl _, H, I, ?_, q⟩
    cases b <;> cases c <;> rfl
  · cases r1
    exact wpAny_isNot_plain rfl ⟨.bl true, H, I, rfl, q⟩
structure Wk (H : Hp) (x dl gl : Addr) (ins : Nat) (us : List V) (ds : List Wd) (os : List V) (gs : List Go) : Prop where
  wb : Wb H x dl gl ins us ds os gs
  dk : ∀ (k : Nat) (d : Wd), ds[k]? = some d → d.a < ins + k ∧ d.b < ins + k ∧ (d.w = "sum" ∨ d.w = "less")
  gk : ∀ g ∈ gs, g.th < ins + ds.length ∧ (g.sg = 0 ∨ g.sg = 1 ∨ g.sg = -1)
  dl6 : ds.length ≤ 6
  ol : gs.length ≤ 12
  i1 : 1 ≤ ins
  i12 : ins ≤ 12
section
variable {H H' : Hp} {x dl gl : Addr} {ins : Nat} {us : List V} {ds : List Wd} {os : List V} {gs : List Go}
theorem Wk.same (h : Wk H x dl gl ins us ds os gs) (s : Same H H') : Wk H' x dl gl ins us ds os gs := ⟨h.wb.same s, h.dk, h.gk, h.dl6, h.ol, h.i1, h.i12⟩
theorem Wk.chg {l : Addr} {xs : List V} (h : Wk H x dl gl ins us ds os gs) (hl : H l = some (.lst xs)) (h1 : dl ≠ l) (h2 : gl ≠ l) (c : Chg l H H') : Wk H' x dl gl ins us ds os gs := ⟨h.wb.chg hl h1 h2 c, h.dk, h.gk, h.dl6, h.ol, h.i1, h.i12⟩
theorem Wk.j (h : Wk H x dl gl ins us ds os gs) : WbJ H x dl gl ins us ds os := by
  have hl := h.wb.hgs.len
  refine ⟨h.wb.tup, h.wb.dll, h.wb.hds, h.wb.gll, fun v hv => ?_, h.dk, h.dl6, by rw [hl]; exact h.ol, h.i1, h.i12⟩
  obtain ⟨i, hi, ev⟩ := List.getElem_of_mem hv
  have e : gs[i]? = some (gs[i]'(by omega)) := List.getElem?_eq_getElem _
  obtain ⟨p, h1, h2⟩ := h.wb.hgs.at_ i _ e
  rw [List.getElem?_eq_getElem hi] at h1
  have e5 := Option.some.inj h1
  obtain ⟨a, b⟩ := h.gk _ (List.mem_of_getElem? e)
  exact ⟨p, _, _, _, by rw [← ev, e5], h2, by omega, by omega, b⟩
end
structure GrT {α : Type} (f : α → List V) (H0 : Hp) (p dl : Addr) (us : List V) (ds : List α) (H : Hp) : Prop where
  dll : H dl = some (.lst us)
  hds : HTs f H us ds
  nd : H0 dl = none
  dp : dl ≠ p
section
variable {α : Type} {f : α → List V} {H0 H H' : Hp} {p dl : Addr} {us : List V} {ds : List α}
theorem GrT.same (h : GrT f H0 p dl us ds H) (s : Same H H') : GrT f H0 p dl us ds H' := ⟨s _ _ h.dll, h.hds.same s, h.nd, h.dp⟩
theorem GrT.step {a : Addr} {c : Int} (h : GrT f H0 p dl us ds H) (hP : LPen H p a c) (s : Chg p H H') : GrT f H0 p dl us ds H' := by
  obtain ⟨xs, hx⟩ := hP.lst
  exact ⟨s _ _ h.dp h.dll, h.hds.chgL hx s, h.nd, h.dp⟩
theorem GrT.snoc {x : α} {q : Addr} (h : GrT f H0 p dl us ds H) (hq : H q = some (.tup (f x))) : GrT f H0 p dl (us ++ [.ref q]) (ds ++ [x]) (upd H dl (.lst (us ++ [.ref q]))) :=
  ⟨upd_same, (h.hds.snoc hq).chgL h.dll (Chg.upd _), h.nd, h.dp⟩
theorem Chg.two {H H1 H2 : Hp} {p l : Addr} (c : Chg p H H1) (n : H l = none) (d : Chg l H1 H2) : Chg p H H2 := fun b o hb q => d b o (ne_of_none q n) (c b o hb q)
end
section
variable {H : Hp} {w : Str} {a b d1 g1 d2 g2 : Addr} {i1 i2 : Nat} {u1 u2 : List V} {s1 s2 : List Wd} {o1 o2 : List V} {t1 t2 : List Go} {Q : VK} {E : XK}
end
end L2
set_option Elab.async false
set_option linter.all false
set_option maxRecDepth 100000
set_option maxHeartbeats 1000000
namespace L2
open PySem PySem.Spec PyProof.Rows
def pad (l m : Nat) (r : List Int) : List Int := List.replicate l 0 ++ r ++ List.replicate m 0
theorem pad_len {l m : Nat} {r : List Int} : (pad l m r).length = l + r.length + m := by unfold pad; simp only [List.length_append, List.length_replicate]
theorem pad_zip {l m : Nat} {f : Int → Int → Int} {r r' : List Int} (h0 : f 0 0 = 0) (hl : r.length = r'.length) : List.zipWith f (pad l m r) (pad l m r') = pad l m (List.zipWith f r r') := by
  unfold pad
  rw [List.zipWith_append (by simp [hl]), List.zipWith_append (by simp), List.zipWith_replicate, List.zipWith_replicate, h0, Nat.min_self, Nat.min_self]
theorem mvI_0 (s : Int) : mvI s 0 = 0 := by
  unfold mvI
  simp
theorem mem_pad {l m : Nat} {r : List Int} {x : Int} (h : x ∈ pad l m r) : x = 0 ∨ x ∈ r := by
  unfold pad at h
  simp only [List.mem_append, List.mem_replicate] at h
  rcases h with (h | h) | h
  · exact .inl h.2
  · exact .inr h
  · exact .inl h.2
theorem pad_sh {l m : Nat} {r : List Int} {s : Int} (h : Sh s r) : Sh s (pad l m r) :=
  ⟨h.1, h.2.1, fun z x hx => by
    rcases mem_pad hx with y | y
    · rw [y]; exact Int.dvd_zero _
    · exact h.2.2 z x y⟩
theorem pad_unit {l i n : Nat} (m : Nat) (hi : i < n) : pad l m (unitRow n i) = unitRow (l + n + m) (l + i) := by
  unfold pad unitRow
  refine List.ext_getElem (by simp only [List.length_append, List.length_replicate, List.length_map, List.length_range]) fun k h1 h2 => ?_
  simp only [List.getElem_append, List.getElem_map, List.getElem_range, List.getElem_replicate, List.length_append, List.length_replicate, List.length_map, List.length_range]
  by_cases z : k < l + n
  · rw [dif_pos z]
    by_cases y : k < l
    · rw [dif_pos y, if_neg (by omega)]
    · rw [dif_neg y]
      by_cases x : k - l = i
      · rw [if_pos x, if_pos (by omega)]
      · rw [if_neg x, if_neg (by omega)]
  · rw [dif_neg z, if_neg (by omega)]
def foldR (rs : List (List Int)) (ds : List Wd) : List (List Int) := ds.foldl (fun rs d => rs ++ [rowD rs d]) rs
theorem foldR_snoc (rs : List (List Int)) (ds : List Wd) (d : Wd) : foldR rs (ds ++ [d]) = foldR rs ds ++ [rowD (foldR rs ds) d] := by unfold foldR; rw [List.foldl_append]; rfl
theorem rowsW_fold (ins : Nat) (a b : List Wd) : rowsW ins (a ++ b) = foldR (rowsW ins a) b := by unfold rowsW foldR; rw [List.foldl_append]
def renW (f : Nat → Nat) (d : Wd) : Wd := ⟨d.w, f d.a, d.s, f d.b, d.t⟩
theorem getD_snoc {rs : List (List Int)} {r : List Int} {k : Nat} (h : k < rs.length) : (rs ++ [r]).getD k [] = rs.getD k [] := by
  rw [List.getD_eq_getElem?_getD, List.getD_eq_getElem?_getD, List.getElem?_append_left h]
theorem getD_last {rs : List (List Int)} {r : List Int} : (rs ++ [r]).getD rs.length [] = r := by
  rw [List.getD_eq_getElem?_getD, List.getElem?_append_right (Nat.le_refl _), Nat.sub_self]
  rfl
theorem emb_fold {ins l m : Nat} {f : Nat → Nat} {rs0 : List (List Int)} (hu : ∀ k, k < ins → f k < rs0.length ∧ rs0.getD (f k) [] = pad l m (unitRow ins k)) (hf : ∀ j, f (ins + j) = rs0.length + j) (ds : List Wd) :
    (∀ (k : Nat) (d : Wd), ds[k]? = some d → d.a < ins + k ∧ d.b < ins + k) → (∀ r ∈ rowsW ins ds, r.length = ins) →
    (foldR rs0 (ds.map (renW f))).length = rs0.length + ds.length ∧ (∀ k, k < ins + ds.length → f k < rs0.length + ds.length ∧ (foldR rs0 (ds.map (renW f))).getD (f k) [] = pad l m ((rowsW ins ds).getD k [])) ∧ ∀ k, k < rs0.length → (foldR rs0 (ds.map (renW f))).getD k [] = rs0.getD k [] := by
  refine snoc_ind (p := fun ds => (∀ (k : Nat) (d : Wd), ds[k]? = some d → d.a < ins + k ∧ d.b < ins + k) → (∀ r ∈ rowsW ins ds, r.length = ins) →
    (foldR rs0 (ds.map (renW f))).length = rs0.length + ds.length ∧ (∀ k, k < ins + ds.length → f k < rs0.length + ds.length ∧ (foldR rs0 (ds.map (renW f))).getD (f k) [] = pad l m ((rowsW ins ds).getD k [])) ∧ ∀ k, k < rs0.length → (foldR rs0 (ds.map (renW f))).getD k [] = rs0.getD k []) ?_ (fun ds d ih => ?_) ds
  · intro _ _
    refine ⟨rfl, fun k hk => ?_, fun k _ => rfl⟩
    rw [List.length_nil, Nat.add_zero] at hk
    obtain ⟨h1, h2⟩ := hu k hk
    refine ⟨h1, ?_⟩
    rw [rowsW_unit hk]
    exact h2
  · intro dk wd
    have dk' : ∀ (k : Nat) (e : Wd), ds[k]? = some e → e.a < ins + k ∧ e.b < ins + k := fun k e he => dk k e (by
      rw [List.getElem?_append_left (List.getElem?_eq_some_iff.mp he).1]; exact he)
    have wd' : ∀ r ∈ rowsW ins ds, r.length = ins := fun r hr => wd r (by rw [rowsW_snoc]; exact List.mem_append_left _ hr)
    obtain ⟨i1, i2, i3⟩ := ih dk' wd'
    obtain ⟨da, db⟩ := dk ds.length d (by rw [List.getElem?_append_right (Nat.le_refl _), Nat.sub_self]; rfl)
    obtain ⟨fa, ea⟩ := i2 d.a da
    obtain ⟨fb, eb⟩ := i2 d.b db
    have rl := rowsW_len ins ds
    have len : ∀ j, j < ins + ds.length → ((rowsW ins ds).getD j []).length = ins := fun j hj => by
      have e := List.getElem?_eq_getElem (l := rowsW ins ds) (i := j) (by omega)
      rw [getD_of e]
      exact wd' _ (List.mem_of_getElem? e)
    rw [List.map_append, List.map_cons, List.map_nil, foldR_snoc, rowsW_snoc]
    simp only [List.length_append, List.length_cons, List.length_nil, i1]
    refine ⟨by omega, fun k hk => ?_, fun k hk => ?_⟩
    · by_cases z : k < ins + ds.length
      · obtain ⟨h1, h2⟩ := i2 k z
        refine ⟨by omega, ?_⟩
        rw [getD_snoc (by omega), getD_snoc (by omega)]
        exact h2
      · have ek : k = ins + ds.length := by omega
        subst ek
        rw [hf]
        refine ⟨by omega, ?_⟩
        rw [← i1, getD_last, ← rl, getD_last]
        show List.zipWith (fun x y => mvI d.s x + sgW d.w * mvI d.t y) ((foldR rs0 (ds.map (renW f))).getD (f d.a) []) ((foldR rs0 (ds.map (renW f))).getD (f d.b) []) = _
        rw [ea, eb, pad_zip (by rw [mvI_0, mvI_0, Int.mul_zero]; rfl) (by rw [len _ da, len _ db])]
        rfl
    · rw [getD_snoc (by omega)]
      exact i3 k hk
structure Emb (I ins l m n0 : Nat) (f : Nat → Nat) : Prop where
  hI : l + ins + m = I
  hu : ∀ k, k < ins → f k = l + k
  hf : ∀ j, f (ins + j) = I + n0 + j
def renO (f : Nat → Nat) (g : Go) : Go := if g.sg = 0 then ⟨0, 0, 0⟩ else ⟨f g.th, g.sh, g.sg⟩
section
variable {I ins l m : Nat} {f : Nat → Nat} {ds0 ds : List Wd} {gs0 gs : List Go}
theorem emb_rows (E : Emb I ins l m ds0.length f) (dk : ∀ (k : Nat) (d : Wd), ds[k]? = some d → d.a < ins + k ∧ d.b < ins + k) (wd : ∀ r ∈ rowsW ins ds, r.length = ins) :
    (∀ k, k < ins + ds.length → f k < I + ds0.length + ds.length ∧ (rowsW I (ds0 ++ ds.map (renW f))).getD (f k) [] = pad l m ((rowsW ins ds).getD k [])) ∧ ∀ k, k < I + ds0.length → (rowsW I (ds0 ++ ds.map (renW f))).getD k [] = (rowsW I ds0).getD k [] := by
  have rl := rowsW_len I ds0
  have := emb_fold (ins := ins) (l := l) (m := m) (f := f) (rs0 := rowsW I ds0) (fun k hk => ?_) (fun j => by rw [E.hf, rl]) ds dk wd
  · obtain ⟨_, h2, h3⟩ := this
    rw [rowsW_fold]
    exact ⟨fun k hk => by rw [← rl]; exact h2 k hk, fun k hk => h3 k (by omega)⟩
  · have := E.hI
    rw [E.hu k hk]
    refine ⟨by omega, ?_⟩
    rw [rowsW_unit (by omega), pad_unit m hk, E.hI]
theorem emb_mem (E : Emb I ins l m ds0.length f) (dk : ∀ (k : Nat) (d : Wd), ds[k]? = some d → d.a < ins + k ∧ d.b < ins + k) (wd : ∀ r ∈ rowsW ins ds, r.length = ins) {r : List Int} (hr : r ∈ rowsW I (ds0 ++ ds.map (renW f))) :
    r ∈ rowsW I ds0 ∨ ∃ q ∈ rowsW ins ds, r = pad l m q := by
  obtain ⟨h1, h2⟩ := emb_rows E dk wd
  obtain ⟨k, hk⟩ := List.getElem?_of_mem hr
  have kl := (List.getElem?_eq_some_iff.mp hk).1
  rw [rowsW_len, List.length_append, List.length_map] at kl
  have hk2 := getD_of (d := []) hk
  by_cases z : k < I + ds0.length
  · rw [h2 k z] at hk2
    have e := List.getElem?_eq_getElem (l := rowsW I ds0) (i := k) (by rw [rowsW_len]; exact z)
    rw [getD_of e] at hk2
    exact .inl (by rw [← hk2]; exact List.mem_of_getElem? e)
  · obtain ⟨j, rfl⟩ : ∃ j, k = I + ds0.length + j := ⟨k - (I + ds0.length), by omega⟩
    rw [← E.hf, (h1 (ins + j) (by omega)).2] at hk2
    have e := List.getElem?_eq_getElem (l := rowsW ins ds) (i := ins + j) (by rw [rowsW_len]; omega)
    rw [getD_of e] at hk2
    exact .inr ⟨_, List.mem_of_getElem? e, hk2.symm⟩
theorem emb_lt (E : Emb I ins l m ds0.length f) {k j : Nat} (h : j < ins + k) : f j < I + (ds0.length + k) := by
  have := E.hI
  by_cases z : j < ins
  · rw [E.hu j z]; omega
  · obtain ⟨i, rfl⟩ : ∃ i, j = ins + i := ⟨j - ins, by omega⟩
    rw [E.hf]; omega
theorem emb_at {k : Nat} {d : Wd} (h : (ds0 ++ ds.map (renW f))[k]? = some d) : ds0[k]? = some d ∨ ∃ j e, k = ds0.length + j ∧ ds[j]? = some e ∧ d = renW f e := by
  by_cases z : k < ds0.length
  · rw [List.getElem?_append_left z] at h
    exact .inl h
  · obtain ⟨j, rfl⟩ : ∃ j, k = ds0.length + j := ⟨k - ds0.length, by omega⟩
    rw [List.getElem?_append_right (by omega), Nat.add_sub_cancel_left, List.getElem?_map] at h
    cases e : ds[j]? with
    | none => rw [e] at h; cases h
    | some y => rw [e] at h; cases h; exact .inr ⟨j, y, rfl, e, rfl⟩
theorem emb_web (E : Emb I ins l m ds0.length f) (W0 : FWeb I ds0 gs0) (W : FWeb ins ds gs) (hd : ds0.length + ds.length ≤ 60) (hg : gs0.length + gs.length ≤ 12) : FWeb I (ds0 ++ ds.map (renW f)) (gs0 ++ gs.map (renO f)) := by
  have dk : ∀ (k : Nat) (d : Wd), ds[k]? = some d → d.a < ins + k ∧ d.b < ins + k := fun k d h => ⟨(W.ok.dk k d h).1, (W.ok.dk k d h).2.1⟩
  obtain ⟨h1, h2⟩ := emb_rows E dk W.wd
  have i1 := W0.ok.i1
  have hI := E.hI
  refine ⟨⟨i1, W0.ok.i2, fun k d h => ?_, fun g hg' => ?_, by simp only [List.length_append, List.length_map]; exact hd, by simp only [List.length_append, List.length_map]; exact hg⟩, fun k d h => ?_, fun g hg' => ?_, fun r hr => ?_, fun r hr => ?_⟩
  · rcases emb_at h with z | ⟨j, e, rfl, he, rfl⟩
    · exact W0.ok.dk k d z
    · obtain ⟨a, b, c⟩ := W.ok.dk j e he
      exact ⟨emb_lt E a, emb_lt E b, c⟩
  · simp only [List.length_append, List.length_map]
    rcases List.mem_append.mp hg' with z | z
    · have := W0.ok.gk g z; omega
    · obtain ⟨g0, hg0, rfl⟩ := List.mem_map.mp z
      unfold renO
      split
      · show 0 < _; omega
      · exact emb_lt E (W.ok.gk g0 hg0)
  · rcases emb_at h with z | ⟨j, e, rfl, he, rfl⟩
    · obtain ⟨a, b, c, c'⟩ := W0.sh k d z
      have kl := (List.getElem?_eq_some_iff.mp z).1
      rw [h2 _ (by omega), h2 _ (by omega)]
      exact ⟨a, b, c, c'⟩
    · obtain ⟨a, b, c, c'⟩ := W.sh j e he
      have jl := (List.getElem?_eq_some_iff.mp he).1
      refine ⟨emb_lt E a, emb_lt E b, ?_, ?_⟩
      · show Sh e.s ((rowsW I (ds0 ++ ds.map (renW f))).getD (f e.a) [])
        rw [(h1 e.a (by omega)).2]
        exact pad_sh c
      · show Sh e.t ((rowsW I (ds0 ++ ds.map (renW f))).getD (f e.b) [])
        rw [(h1 e.b (by omega)).2]
        exact pad_sh c'
  · rcases List.mem_append.mp hg' with z | z
    · rcases W0.go g z with y | ⟨y1, y2⟩
      · exact .inl y
      · refine .inr ⟨y1, ?_⟩
        rw [h2 _ (W0.ok.gk g z)]
        exact y2
    · obtain ⟨g0, hg0, rfl⟩ := List.mem_map.mp z
      rcases W.go g0 hg0 with y | ⟨y1, y2⟩
      · left
        rw [y]
        rfl
      · have ns : g0.sg ≠ 0 := by rcases y1 with y | y <;> rw [y] <;> decide
        unfold renO
        rw [if_neg ns]
        refine .inr ⟨y1, ?_⟩
        show Sh g0.sh ((rowsW I (ds0 ++ ds.map (renW f))).getD (f g0.th) [])
        rw [(h1 g0.th (W.ok.gk g0 hg0)).2]
        exact pad_sh y2
  · simp only [List.length_append, List.length_map]
    rcases emb_mem E dk W.wd hr with z | ⟨q, hq, rfl⟩
    · exact ⟨(W0.rb r z).1, fun n hn => Nat.le_trans ((W0.rb r z).2 n hn) (Nat.pow_le_pow_right (by decide) (by omega))⟩
    · have ql := W.wd q hq
      refine ⟨by rw [pad_len, ql, hI]; exact W0.ok.i2, fun n hn => ?_⟩
      rcases mem_pad hn with y | y
      · rw [y]; exact Nat.zero_le _
      · exact Nat.le_trans ((W.rb q hq).2 n y) (Nat.pow_le_pow_right (by decide) (by omega))
  · rcases emb_mem E dk W.wd hr with z | ⟨q, hq, rfl⟩
    · exact W0.wd r z
    · rw [pad_len, W.wd q hq, hI]
end
end L2
set_option Elab.async false
set_option linter.all false
set_option maxRecDepth 100000
set_option maxHeartbeats 1000000
namespace L2
open PySem PySem.Spec PyProof.Rows
structure HKs {α : Type} (K : PySem.W.Frag) (f : α → List V) (H : Hp) (vs : List V) (xs : List α) : Prop where
  len : vs.length = xs.length
  at_ : ∀ (k : Nat) (x : α), xs[k]? = some x → ∃ p : Addr, vs[k]? = some (.ref p) ∧ SqT K H p (f x)
section
variable {α : Type} {K : PySem.W.Frag} {f : α → List V} {H H' : Hp} {vs us : List V} {xs : List α} {l : Addr}
theorem HTs.hk (h : HTs f H vs xs) : HKs K f H vs xs := ⟨h.len, fun k x e => by
  obtain ⟨p, e1, e2⟩ := h.at_ k x e
  exact ⟨p, e1, SqT.of e2⟩⟩
theorem HKs.same (h : HKs K f H vs xs) (s : Same H H') : HKs K f H' vs xs := ⟨h.len, fun k d e => by
  obtain ⟨x, e1, e2⟩ := h.at_ k d e
  exact ⟨x, e1, s.seqT e2⟩⟩
theorem HKs.chgL (h : HKs K f H vs xs) (hl : H l = some (.lst us)) (c : Chg l H H') : HKs K f H' vs xs := ⟨h.len, fun k d e => by
  obtain ⟨x, e1, e2⟩ := h.at_ k d e
  exact ⟨x, e1, sqT_chg e2 hl c⟩⟩
theorem HKs.snoc {x : α} {p : Addr} (h : HKs K f H vs xs) (hx : SqT K H p (f x)) : HKs K f H (vs ++ [.ref p]) (xs ++ [x]) := by
  refine ⟨by simp [h.len], fun k e he => ?_⟩
  rcases get_snoc he with ⟨hk, z⟩ | ⟨hk, rfl⟩
  · obtain ⟨y, e1, e2⟩ := h.at_ k e z
    exact ⟨y, by rw [List.getElem?_append_left (by rw [h.len]; exact hk)]; exact e1, e2⟩
  · refine ⟨p, ?_, hx⟩
    rw [List.getElem?_append_right (by rw [h.len]; omega), h.len, hk, Nat.sub_self]
    rfl
end
structure WbK (K : PySem.W.Frag) (H : Hp) (w dl gl : Addr) (ins : Nat) (us : List V) (ds : List Wd) (os : List V) (gs : List Go) : Prop where
  tup : H w = some (.tup [.int ins, .ref dl, .ref gl])
  dll : H dl = some (.lst us)
  hds : HTs wTup H us ds
  gll : H gl = some (.lst os)
  hgs : HKs K gTp H os gs
theorem WbK.same {K : PySem.W.Frag} {H H' : Hp} {w dl gl : Addr} {ins : Nat} {us : List V} {ds : List Wd} {os : List V} {gs : List Go} (h : WbK K H w dl gl ins us ds os gs) (s : Same H H') : WbK K H' w dl gl ins us ds os gs :=
  ⟨s _ _ h.tup, s _ _ h.dll, h.hds.same s, s _ _ h.gll, h.hgs.same s⟩
def fB1 (i1 i2 : Nat) (k : Nat) : Nat := if k < i1 then k else i1 + i2 + (k - i1)
def fB2 (i1 i2 n1 : Nat) (k : Nat) : Nat := if k < i2 then i1 + k else i1 + i2 + n1 + (k - i2)
def fB3 (ins n1 : Nat) (k : Nat) : Nat := if k < ins then k else ins + n1 + (k - ins)
theorem emb1 (i1 i2 : Nat) : Emb (i1 + i2) i1 0 i2 0 (fB1 i1 i2) :=
  ⟨by omega, fun k hk => by unfold fB1; rw [if_pos hk]; omega, fun j => by unfold fB1; rw [if_neg (by omega)]; omega⟩
theorem emb2 (i1 i2 n1 : Nat) : Emb (i1 + i2) i2 i1 0 n1 (fB2 i1 i2 n1) :=
  ⟨by omega, fun k hk => by unfold fB2; rw [if_pos hk], fun j => by unfold fB2; rw [if_neg (by omega)]; omega⟩
theorem emb3 (ins n1 : Nat) : Emb ins ins 0 0 n1 (fB3 ins n1) :=
  ⟨by omega, fun k hk => by unfold fB3; rw [if_pos hk]; omega, fun j => by unfold fB3; rw [if_neg (by omega)]; omega⟩
theorem fweb_nil {I : Nat} (h1 : 1 ≤ I) (h2 : I ≤ 12) : FWeb I [] [] := by
  refine ⟨⟨h1, h2, fun k d h => by simp at h, (fun g h => by cases h), by decide, by decide⟩, fun k d h => by simp at h, (fun g h => by cases h), fun r hr => ?_, fun r hr => ?_⟩
  · obtain ⟨i, _, rfl⟩ := List.mem_map.mp hr
    refine ⟨by rw [unitRow_len]; exact h2, fun n hn => ?_⟩
    rcases unitRow_bound hn with z | z <;> subst z <;> decide
  · obtain ⟨i, _, rfl⟩ := List.mem_map.mp hr
    exact unitRow_len _ _
theorem beside_web {i1 i2 : Nat} {s1 s2 : List Wd} {t1 t2 : List Go} (W1 : FWeb i1 s1 t1) (W2 : FWeb i2 s2 t2) (h1 : i1 + i2 ≤ 12) (h2 : s1.length + s2.length ≤ 60) (h3 : t1.length + t2.length ≤ 12) :
    FWeb (i1 + i2) (s1.map (renW (fB1 i1 i2)) ++ s2.map (renW (fB2 i1 i2 s1.length))) (t1.map (renO (fB1 i1 i2)) ++ t2.map (renO (fB2 i1 i2 s1.length))) := by
  have i11 := W1.ok.i1
  have A := emb_web (ds0 := []) (gs0 := []) (emb1 i1 i2) (fweb_nil (by omega) h1) W1 (by simp only [List.length_nil]; omega) (by simp only [List.length_nil]; omega)
  rw [List.nil_append, List.nil_append] at A
  exact emb_web (by rw [List.length_map]; exact emb2 i1 i2 s1.length) A W2 (by rw [List.length_map]; exact h2) (by rw [List.length_map]; exact h3)
theorem both_web {ins : Nat} {s1 s2 : List Wd} {t1 t2 : List Go} (W1 : FWeb ins s1 t1) (W2 : FWeb ins s2 t2) (h2 : s1.length + s2.length ≤ 60) (h3 : t1.length + t2.length ≤ 12) :
    FWeb ins (s1 ++ s2.map (renW (fB3 ins s1.length))) (t1 ++ t2.map (renO (fB3 ins s1.length))) := emb_web (emb3 ins s1.length) W1 W2 h2 h3
end L2
set_option Elab.async false
set_option linter.all false
set_option maxRecDepth 100000
set_option maxHeartbeats 1000000
namespace L2
open PySem PySem.Spec PyProof.Rows
section
variable {X : Cx}
end
section
variable {K : PySem.W.Frag} {σ : St} {H : Hp} {Q : VK} {cs : List Nat} {te : TE}
end
theorem LL.hrs {H : Hp} {l : Addr} {rs : List (List Int)} (h : LL H l rs) : ∃ vs, H l = some (.lst vs) ∧ HRs H [l] vs rs := by
  obtain ⟨vs, h1, h2, h3⟩ := h
  refine ⟨vs, h1, h2, fun k r e => ?_⟩
  obtain ⟨p, a, b, c⟩ := h3 k r e
  exact ⟨p, a, c, fun e he => by rw [List.mem_singleton.mp he]; exact b⟩
end L2
set_option Elab.async false
set_option linter.all false
set_option maxRecDepth 100000
set_option maxHeartbeats 1000000
namespace L2
open PySem PySem.Spec PyProof.Rows
theorem hks_isL {α : Type} {f : α → List V} {K : PySem.W.Frag} {H : Hp} (hf : ∀ a, (f a).all flatV = true) : ∀ {xs : List α} {vs : List V}, HKs K f H vs xs → IsL K H vs (xs.map fun a => .t ((f a).map Dt.f))
  | [], vs, h => by
    have : vs = [] := List.eq_nil_of_length_eq_zero h.len
    subst this
    rw [List.map_nil, IsL]
  | a :: r, vs, h => by
    obtain ⟨p, h1, h2⟩ := h.at_ 0 a rfl
    cases vs with
    | nil => cases h1
    | cons v vs =>
      cases h1
      rw [List.map_cons, IsL]
      refine ⟨_, _, rfl, is_tup h2 (hf a), hks_isL hf ⟨by have := h.len; simpa using this, fun k x hx => ?_⟩⟩
      exact h.at_ (k + 1) x hx
theorem WbK.is {K : PySem.W.Frag} {H : Hp} {w dl gl : Addr} {ins : Nat} {us : List V} {ds : List Wd} {os : List V} {gs : List Go} (h : WbK K H w dl gl ins us ds os gs) : Is K H (.ref w) (webDt ins ds gs) := by
  unfold webDt
  rw [Is]
  refine ⟨w, _, rfl, SqT.of h.tup, ?_⟩
  rw [IsL]
  refine ⟨_, _, rfl, by rw [Is]; exact ⟨rfl, rfl⟩, ?_⟩
  rw [IsL]
  refine ⟨_, _, rfl, ?_, ?_⟩
  · rw [Is]
    exact ⟨dl, us, rfl, SqL.of h.dll, hts_isL (fun _ => rfl) h.hds⟩
  · rw [IsL]
    refine ⟨_, _, rfl, ?_, by rw [IsL]⟩
    rw [Is]
    exact ⟨gl, os, rfl, SqL.of h.gll, hks_isL (fun _ => rfl) h.hgs⟩
theorem WbK.chg {K : PySem.W.Frag} {H H' : Hp} {w dl gl l : Addr} {ins : Nat} {us xs : List V} {ds : List Wd} {os : List V} {gs : List Go} (h : WbK K H w dl gl ins us ds os gs) (hl : H l = some (.lst xs)) (h1 : dl ≠ l) (h2 : gl ≠ l) (c : Chg l H H') : WbK K H' w dl gl ins us ds os gs :=
  ⟨c _ _ (ne_of h.tup hl (by intro z; cases z)) h.tup, c _ _ h1 h.dll, h.hds.chgL hl c, c _ _ h2 h.gll, h.hgs.chgL hl c⟩
def insJ (c : Bool) (i1 i2 : Nat) : Nat := if c then i1 + i2 else i1
def dsJ (c : Bool) (i1 i2 : Nat) (s1 s2 : List Wd) : List Wd := if c then s1.map (renW (fB1 i1 i2)) ++ s2.map (renW (fB2 i1 i2 s1.length)) else s1 ++ s2.map (renW (fB3 i1 s1.length))
def gsJ (c : Bool) (i1 i2 n1 : Nat) (t1 t2 : List Go) : List Go := if c then t1.map (renO (fB1 i1 i2)) ++ t2.map (renO (fB2 i1 i2 n1)) else t1 ++ t2.map (renO (fB3 i1 n1))
structure JOk (c : Bool) (i1 i2 : Nat) (s1 s2 : List Wd) (t1 t2 : List Go) : Prop where
  w1 : FWeb i1 s1 t1
  w2 : FWeb i2 s2 t2
  hc : c = true → i1 + i2 ≤ 12
  hn : c = false → i1 = i2
  hd1 : s1.length ≤ 16
  hd2 : s2.length ≤ 16
  ho : t1.length + t2.length ≤ 12
section
variable {c : Bool} {i1 i2 : Nat} {s1 s2 : List Wd} {t1 t2 : List Go}
theorem JOk.web (h : JOk c i1 i2 s1 s2 t1 t2) : FWeb (insJ c i1 i2) (dsJ c i1 i2 s1 s2) (gsJ c i1 i2 s1.length t1 t2) := by
  have h1 := h.hd1
  have h2 := h.hd2
  cases c with
  | true => exact beside_web h.w1 h.w2 (h.hc rfl) (by omega) h.ho
  | false =>
    have e := h.hn rfl
    subst e
    exact both_web h.w1 h.w2 (by omega) h.ho
theorem JOk.dlen : (dsJ c i1 i2 s1 s2).length = s1.length + s2.length := by
  unfold dsJ
  split <;> simp
end
section
variable {K : PySem.W.Frag} {σ : St} {H : Hp} {Q : VK} {cs : List Nat} {te : TE}
end
end L2
set_option Elab.async false
set_option linter.all false
set_option maxRecDepth 100000
set_option maxHeartbeats 1000000
namespace L2
open PySem PySem.Spec PyProof.Rows
def Rise (xs : Array Nat) : Prop := ∀ i j (hi : i < xs.size) (hj : j < xs.size), i < j → xs[i] < xs[j]
structure TabZ (led : Bool) (t : SetTable) : Prop where
  rise : Rise t.place
  dum : t.dummies = #[]
  led_ : t.led = led
end L2
set_option Elab.async false
set_option linter.all false
set_option maxRecDepth 100000
set_option maxHeartbeats 1000000
namespace L2
open PySem PySem.Spec PyProof.Rows
def keyZ (e : Int × Value) : Int := match e.2 with
  | .int k _ => k
  | _ => 0
abbrev setObj (es : Array (Int × Value)) (ep : Nat) (t : SetTable) : Obj := { cls := .type "set", dict := none, data := .set es ep t }
def EntZ (es : List (Int × Value)) : Prop := ∀ e ∈ es, ∃ k tk, e = (hashInt k, Value.int k tk)
structure SetO (led : Bool) (es : Array (Int × Value)) (t : SetTable) (ks : List Int) : Prop where
  ent : EntZ es.toList
  perm : (es.toList.map keyZ).Perm ks
  nd : ks.Nodup
  sm : es.size < scanBound
  fit : t.fits es.size = true
  tab : TabZ led t
def SetZ (led : Bool) (h : Heap) (a : Addr) (ks : List Int) : Prop := ∃ es ep t, h.get? a = some (setObj es ep t) ∧ SetO led es t ks
theorem SetO.len {led : Bool} {es : Array (Int × Value)} {t : SetTable} {ks : List Int} (h : SetO led es t ks) : es.size = ks.length := by
  have := h.perm.length_eq
  rw [List.length_map, Array.length_toList] at this
  exact this
section
variable {prog : Program} {w : World} {A : Around} {E : Value → Shared → Prop} {s : Shared}
end
end L2
set_option Elab.async false
set_option linter.all false
set_option maxRecDepth 100000
set_option maxHeartbeats 1000000
namespace L2
open PySem PySem.Spec PyProof.Rows
theorem SetZ.keep {led : Bool} {h h' : Heap} {a : Addr} {ks : List Int} (z : SetZ led h a ks) (k : ∀ o, h.get? a = some o → h'.get? a = some o) : SetZ led h' a ks := by
  obtain ⟨es, ep, t, ho, Z⟩ := z
  exact ⟨es, ep, t, k _ ho, Z⟩
section
variable {prog : Program} {w : World} {A : Around} {E : Value → Shared → Prop} {s : Shared}
end
section
variable {prog : Program} {w : World} {A : Around} {R : Result → Shared → Prop} {I : Addr} {fp wr : List Addr} {G : Array GenState → Array GenState → Prop} {P : Nat → Value → Prop} {St : Nat → Shared → Prop}
end
section
variable {prog : Program} {w : World} {A : Around} {E : Value → Shared → Prop} {s : Shared}
end
end L2
set_option Elab.async false
set_option linter.all false
set_option maxRecDepth 100000
set_option maxHeartbeats 1000000
namespace L2
open PySem PySem.Spec PyProof.Rows
section
variable {prog : Program} {w : World} {A : Around} {E : Value → Shared → Prop} {s : Shared} {it S : Addr} {f : Value} {i n ep : Nat} {es : Array (Int × Value)} {t : SetTable}
end
end L2
set_option Elab.async false
set_option linter.all false
set_option maxRecDepth 100000
set_option maxHeartbeats 1000000
namespace L2
open PySem PySem.Spec PyProof.Rows
section
variable {prog : Program} {w : World} {A : Around} {E : Value → Shared → Prop} {s : Shared} {S : Addr} {i ep : Nat} {es : Array (Int × Value)} {t : SetTable} {ks : List Int}
end
end L2
set_option Elab.async false
set_option linter.all false
set_option maxRecDepth 100000
set_option maxHeartbeats 1000000
namespace L2
open PySem PySem.Spec PyProof.Rows
section
variable {prog : Program} {w : World} {A : Around} {E : Value → Shared → Prop} {s : Shared} {S it : Addr} {ep : Nat} {es : Array (Int × Value)} {t : SetTable} {ks : List Int}
end
end L2
set_option Elab.async false
set_option linter.all false
set_option maxRecDepth 100000
set_option maxHeartbeats 1000000
namespace L2
open PySem PySem.Spec PyProof.Rows
section
variable {prog : Program} {w : World} {A : Around} {E : Value → Shared → Prop} {s : Shared} {T : String} {r : Addr} {C : Nat → (Nat → Value → Prop) → Prop} {OK : Heap → Prop}
end
section
variable {X : Cx}
theorem Inv.drawn {pins : List (Addr × Obj)} {σ : St} {H : Hp} {s : Shared} (I : Inv X pins σ H s) (d : Drawn) : Inv X pins σ H { s with drawn := d } :=
  ⟨I.ok, I.os, I.bare, I.base, I.loc, I.cell, I.free, I.freeC, I.pin, I.hok, I.len⟩
end
end L2
set_option Elab.async false
set_option linter.all false
set_option maxRecDepth 100000
set_option maxHeartbeats 1000000
namespace L2
open PySem PySem.Spec PyProof.Rows
section
variable {X : Cx}
end
end L2
set_option Elab.async false
set_option linter.all false
set_option maxRecDepth 100000
set_option maxHeartbeats 1000000
namespace L2
open PySem PySem.Spec PyProof.Rows
section
variable {X : Cx}
end
end L2
set_option Elab.async false
set_option linter.all false
set_option maxRecDepth 100000
set_option maxHeartbeats 1000000
namespace L2
open PySem PySem.Spec PyProof.Rows
def gDe : Int → Int → Int → Int → Int := fun y _ _ x => max y (x + 1)
def dpW (ins : Nat) (ds : List Wd) : List Int := vG gDe 0 (List.replicate ins 0) ds
section
variable {ins : Nat} {ds : List Wd}
theorem dpW_len : (dpW ins ds).length = ins + ds.length := by unfold dpW; rw [vG_len, List.length_replicate]
theorem dp_in {j : Nat} (h : j < ins) : (dpW ins ds).getD j 0 = 0 := by
  have e : (vG gDe 0 (List.replicate ins 0) ([] : List Wd))[j]? = some 0 := by
    show (List.replicate ins (0 : Int))[j]? = some 0
    rw [List.getElem?_replicate, if_pos h]
  have e2 := vG_pre (g := gDe) (z := 0) (List.replicate ins 0) [] ds e
  rw [List.nil_append] at e2
  exact getD_of e2
end
structure Rx (ins : Nat) (ds : List Wd) (j lo : Nat) (far : List Int) : Prop where
  len : far.length = ins + ds.length
  le : ∀ x, far.getD x 0 ≤ (dpW ins ds).getD x 0
  nn : ∀ x, 0 ≤ far.getD x 0
  ok : ∀ k, k < j → far.getD (ins + k) 0 = (dpW ins ds).getD (ins + k) 0
  cur : lo ≤ j → j < ds.length → far.getD (ins + j) 0 = (dpW ins ds).getD (ins + j) 0
section
variable {ins : Nat} {ds : List Wd} {j lo : Nat} {far : List Int}
theorem Rx.turn (h : Rx ins ds j 0 far) (hj : j < ds.length + 1) : Rx ins ds (j + 1) ds.length far :=
  ⟨h.len, h.le, h.nn, fun k hk => by
    by_cases q : k < j
    · exact h.ok k q
    · have : k = j := by omega
      subst this
      by_cases y : k < ds.length
      · exact h.cur (Nat.zero_le _) y
      · rw [List.getD_eq_getElem?_getD, List.getElem?_eq_none (by rw [h.len]; omega), List.getD_eq_getElem?_getD, List.getElem?_eq_none (by rw [dpW_len]; omega)], fun h1 h2 => by omega⟩
theorem Rx.done (h : Rx ins ds (ds.length + 1) lo far) : far = dpW ins ds := by
  apply List.ext_getElem?
  intro i
  by_cases q : i < ins + ds.length
  · have e1 := List.getElem?_eq_getElem (l := far) (i := i) (by rw [h.len]; exact q)
    have e2 := List.getElem?_eq_getElem (l := dpW ins ds) (i := i) (by rw [dpW_len]; exact q)
    rw [e1, e2]
    congr 1
    rw [← getD_of (d := 0) e1, ← getD_of (d := 0) e2]
    by_cases z : i < ins
    · have h3 := h.le i
      have h4 := h.nn i
      rw [dp_in z] at h3 ⊢
      omega
    · have := h.ok (i - ins) (by omega)
      rw [show ins + (i - ins) = i by omega] at this
      exact this
  · rw [List.getElem?_eq_none (by rw [h.len]; omega), List.getElem?_eq_none (by rw [dpW_len]; omega)]
end
end L2
set_option Elab.async false
set_option linter.all false
set_option maxRecDepth 100000
set_option maxHeartbeats 1000000
namespace L2
open PySem PySem.Spec PyProof.Rows
structure LDp (H : Hp) (l : Addr) (ps : List Addr) (rows : List (List Int)) : Prop where
  lst : H l = some (.lst (ps.map V.ref))
  len : ps.length = rows.length
  nd : ps.Nodup
  nl : l ∉ ps
  at_ : ∀ (k : Nat) (p : Addr) (r : List Int), ps[k]? = some p → rows[k]? = some r → H p = some (.lst (r.map V.int))
theorem LDp.same {H H' : Hp} {l : Addr} {ps : List Addr} {rows : List (List Int)} (h : LDp H l ps rows) (s : Same H H') : LDp H' l ps rows := ⟨s _ _ h.lst, h.len, h.nd, h.nl, fun k p r e1 e2 => s _ _ (h.at_ k p r e1 e2)⟩
theorem LDp.ll {H : Hp} {l : Addr} {ps : List Addr} {rows : List (List Int)} (h : LDp H l ps rows) : LL H l rows := by
  refine ⟨_, h.lst, by rw [List.length_map]; exact h.len, fun i c hc => ?_⟩
  have il := (List.getElem?_eq_some_iff.mp hc).1
  have e := List.getElem?_eq_getElem (l := ps) (i := i) (by rw [h.len]; exact il)
  refine ⟨ps[i]'(by rw [h.len]; exact il), by rw [List.getElem?_map, e]; rfl, fun z => h.nl (z ▸ List.mem_of_getElem? e), h.at_ i _ c e hc⟩
section
variable {K : PySem.W.Frag} {σ : St} {H : Hp} {Q : VK} {cs : List Nat} {te : TE}
end
end L2
set_option Elab.async false
set_option linter.all false
set_option maxRecDepth 100000
set_option maxHeartbeats 1000000
namespace L2
open PySem PySem.Spec PyProof.Rows
section
variable {K : PySem.W.Frag} {σ : St} {H : Hp} {Q : VK} {cs : List Nat} {tt : TT} {te : TE}
end
end L2
set_option Elab.async false
set_option linter.all false
set_option maxRecDepth 100000
set_option maxHeartbeats 1000000
namespace L2
open PySem PySem.Spec PyProof.Rows
section
variable {X : Cx}
end
end L2
set_option Elab.async false
set_option linter.all false
set_option maxRecDepth 100000
set_option maxHeartbeats 1000000
namespace L2
open PySem PySem.Spec PyProof.Rows
def pm (some_ : List Int) (h : Int) : List Int := some_.flatMap fun r => [h + r, h - r]
theorem nodup_len : ∀ {l m : List Int}, l.Nodup → (∀ x ∈ l, x ∈ m) → l.length ≤ m.length
  | [], m, _, _ => Nat.zero_le _
  | a :: r, m, nd, h => by
    have nd' := List.nodup_cons.mp nd
    have am := h a List.mem_cons_self
    have := nodup_len (m := m.erase a) nd'.2 fun x hx => by
      have xa : x ≠ a := fun e => nd'.1 (e ▸ hx)
      exact (List.mem_erase_of_ne xa).mpr (h x (List.mem_cons_of_mem _ hx))
    rw [List.length_erase_of_mem am] at this
    have ml := List.length_pos_of_mem am
    rw [List.length_cons]
    omega
end L2
set_option Elab.async false
set_option linter.all false
set_option maxRecDepth 100000
set_option maxHeartbeats 1000000
namespace L2
open PySem PySem.Spec PyProof.Rows
section
variable {K : PySem.W.Frag} {σ : St} {H : Hp} {Q : VK} {cs : List Nat} {te : TE}
end
def PrOk (H : Hp) (ex : List Addr) (p : V × V) : Prop := ∃ (a b : Addr) (xs : List Int), p = (.ref a, .ref b) ∧ H a = some (.lst (xs.map V.int)) ∧ H b = some (.lst (xs.map V.int)) ∧ xs.length ≤ 1000 ∧ ∀ e ∈ ex, a ≠ e ∧ b ≠ e
theorem PrOk.same {H H' : Hp} {ex : List Addr} {p : V × V} (h : PrOk H ex p) (s : Same H H') : PrOk H' ex p := by
  obtain ⟨a, b, xs, e, h1, h2, h3, h4⟩ := h
  exact ⟨a, b, xs, e, s _ _ h1, s _ _ h2, h3, h4⟩
theorem PrOk.chg {H H' : Hp} {ex : List Addr} {p : V × V} {l : Addr} (h : PrOk H ex p) (hl : l ∈ ex) (c : Chg l H H') : PrOk H' ex p := by
  obtain ⟨a, b, xs, e, h1, h2, h3, h4⟩ := h
  exact ⟨a, b, xs, e, c _ _ (h4 l hl).1 h1, c _ _ (h4 l hl).2 h2, h3, h4⟩
end L2
set_option Elab.async false
set_option linter.all false
set_option maxRecDepth 100000
set_option maxHeartbeats 1000000
namespace L2
open PySem PySem.Spec PyProof.Rows
section
variable {prog : Program} {w : World} {A : Around} {E : Value → Shared → Prop} {s : Shared} {K : PySem.W.Frag} {x C dx : Addr} {ox : Obj} {name : Str} {v : Value}
end
section
variable {prog : Program} {w : World} {A : Around} {E : Value → Shared → Prop} {h : Heap} {g : Array GenState} {d : Drawn} {t : Nat} {os : OsState}
variable {nm q : Str} {C N : Addr} {bs bm bmB : List Value} {hdct : Bool} {sn : List Str} {sub : List Value} {ab : Bool} {col : Option Bool} {dd : Option Addr} {k0 k1 k2 k3 k5 : Option Value} {B newId initId : String}
def excOb (C t : Addr) (d : Option Addr) : Obj := { cls := .ref C, dict := d, data := .fields #[.ref t, .none, .none, .none, .bool false, .none] }
end
end L2
set_option Elab.async false
set_option linter.all false
set_option maxRecDepth 100000
set_option maxHeartbeats 1000000
namespace L2
open PySem PySem.Spec PyProof.Rows
def ExN (e C t : Addr) (d : Option Addr) : HO := .ext fun h => h.get? e = some (excOb C t d)
theorem ExN.ok {P : Program} {w : World} {H : Hp} {h : Heap} {e C t : Addr} {d : Option Addr} (g : h.get? e = some (excOb C t d)) : ObjOk P w H h e (ExN e C t d) := ⟨g, ⟨_, g⟩, fun h1 h2 q k => k _ q⟩
def excF (o : Obj) (C : Addr) (newId : String) : Bool := o.cls == .type "type" && o.slots.size == 6 && o.slots[4]? == some (some (.builtin newId)) && (match o.data with | .cls cd => cd.mro.head? == some (.ref C) && !cd.hasDel | _ => false)
def excI (K : PySem.W.Frag) (C : Addr) (bmB : List Value) (newId : String) (fI : Addr) : Bool := match K.lookup C with
  | some o => excF o C newId && (match o.data with | .cls cd => PySem.W.tailIn K bmB cd.mro.tail && PySem.W.nsOkIn K cd.ns && PySem.W.nsIn K cd.ns "__init__" == some (some (.ref fI)) | _ => false)
  | none => false
theorem ns_some_of {K : PySem.W.Frag} {h : Heap} {N : Addr} {mg : Str → Option Value} {n : Str} {v : Value} (X : K.In h) (G : h.Ns N mg) (e : PySem.W.nsIn K N n = some (some v)) : mg n = some v := by
  obtain ⟨o, es, ep, ho, hd, _, hf⟩ := G
  unfold PySem.W.nsIn at e
  split at e
  · rename_i c d es' n' sl q
    have z := (X _ _ q).symm.trans ho
    have z' := Option.some.inj z
    subst z'
    cases hd
    split at e
    · rename_i en he
      cases e
      rw [← hf]
      unfold nsFind findBy
      rw [← Array.find?_toList, he]
      rfl
    · split at e <;> cases e
  · cases e
theorem excI_obj {K : PySem.W.Frag} {h : Heap} {C : Addr} {bmB : List Value} {newId : String} {fI : Addr} (X : K.In h) (q : excI K C bmB newId fI = true) :
    ∃ bm N nm q bs hdct sn sub ab col dd k0 k1 k2 k3 k5 mN, h.get? C = some (excClassObj nm q C N bs bm hdct sn sub ab col dd k0 k1 k2 k3 k5 newId) ∧ h.Ns N mN ∧ mN "__init__" = some (.ref fI) ∧ OwnTail h bmB bm := by
  unfold excI at q
  split at q
  · rename_i o ho
    obtain ⟨oc, od, dt, sl⟩ := o
    cases dt <;> first | (simp [excF] at q; done) | skip
    rename_i cd
    simp only [excF, Bool.and_eq_true, beq_iff_eq, Bool.not_eq_true'] at q
    obtain ⟨⟨⟨⟨h1, h2⟩, h3⟩, h4, h5⟩, ⟨h6, h7⟩, h8⟩ := q
    obtain ⟨nm, bs, mro, ns, qn, hd, sn, sub, ab, col, del⟩ := cd
    dsimp only at h1 h2 h3 h4 h5 h6 h7 h8
    subst h1 h5
    cases mro with
    | nil => cases h4
    | cons m bm =>
      cases h4
      obtain ⟨l⟩ := sl
      match l, h2, h3 with
      | [k0, k1, k2, k3, k4, k5], _, h3 =>
        cases h3
        have hn : h.Ns ns _ := .of_isNs (PySem.W.isNs_of_in X h7)
        exact ⟨bm, ns, nm, qn, bs, hd, sn, sub, ab, col, od, k0, k1, k2, k3, k5, _, X _ _ ho, hn, ns_some_of X hn h8, PySem.W.tail_of_in X h6⟩
  · cases q
section
variable {X : Cx} {pins : List (Addr × Obj)} {σ : St} {H : Hp} {s : Shared} {x C t : Addr} {f : Str}
end
def spXI (C : Addr) (f : Str) : Sp := fun vs H Q _ => ∃ x t y, vs = [.ref x, y] ∧ H x = some (ExN x C t none) ∧ ∀ d, H d = none → Q .non (upd (upd H x (ExN x C t (some d))) d (.xd [(f, y)]))
end L2
set_option Elab.async false
set_option linter.all false
set_option maxRecDepth 100000
set_option maxHeartbeats 1000000
namespace L2
open PySem PySem.Spec PyProof.Rows
section
variable {M : Model} {A : Around} {E : Value → Shared → Prop} {env : Env}
variable {nm q : Str} {C N : Addr} {bs bm : List Value} {hdct : Bool} {sn : List Str} {sub : List Value} {ab : Bool} {col : Option Bool} {dd : Option Addr} {k0 k1 k2 k3 k5 : Option Value} {newId : String}
end
structure XCls (P : Program) (w : World) (K : PySem.W.Frag) (mg : Str → Option Value) (base : Heap) (C : Addr) (f : Str) : Prop where
  ex : ∃ (fI : Addr) (fd : FuncData), FnOk P w K mg base CX0 1 fI fd ["self", f] (spXI C f) ∧ Binds K fd ["self", f] [] ∧ PySem.W.isFn K (.ref fI) = true ∧ excI K C [.type "ValueError", .type "Exception", .type "BaseException", .type "object"] "ValueError.__new__" fI = true
  kp : PySem.W.keepIn K (.ref C) = true
section
variable {X : Cx} {C : Addr} {f : Str}
end
end L2
set_option Elab.async false
set_option linter.all false
set_option maxRecDepth 100000
set_option maxHeartbeats 1000000
namespace L2
open PySem PySem.Spec PyProof.Rows
def ExCls (K : PySem.W.Frag) (c : Addr) : Prop := (∃ bmB newId, PySem.W.excIn K c bmB newId = true) ∨ ∃ bmB newId f, excI K c bmB newId f = true
theorem ExCls.obj {K : PySem.W.Frag} {h : Heap} {C : Addr} (e : ExCls K C) (X : K.In h) : ∃ bm N nm q bs hdct sn sub ab col dd k0 k1 k2 k3 k5 newId, h.get? C = some (excClassObj nm q C N bs bm hdct sn sub ab col dd k0 k1 k2 k3 k5 newId) := by
  rcases e with ⟨_, _, q⟩ | ⟨_, _, _, q⟩
  · obtain ⟨bm, N, nm, q, bs, hdct, sn, sub, ab, col, dd, k0, k1, k2, k3, k5, mN, hC, _⟩ := exc_obj X q
    exact ⟨_, _, _, _, _, _, _, _, _, _, _, _, _, _, _, _, _, hC⟩
  · obtain ⟨bm, N, nm, q, bs, hdct, sn, sub, ab, col, dd, k0, k1, k2, k3, k5, mN, hC, _⟩ := excI_obj X q
    exact ⟨_, _, _, _, _, _, _, _, _, _, _, _, _, _, _, _, _, hC⟩
theorem XCls.cls {P : Program} {w : World} {K : PySem.W.Frag} {mg : Str → Option Value} {base : Heap} {C : Addr} {f : Str} (M : XCls P w K mg base C f) : ExCls K C := by
  obtain ⟨fI, fd, F, hb, hfn, q⟩ := M.ex
  exact .inr ⟨_, _, _, q⟩
section
variable {prog : Program} {w : World} {A : Around} {E : Value → Shared → Prop} {s : Shared} {K : PySem.W.Frag} {x D : Addr} {o : Obj} {od : Option Obj}
end
end L2
set_option Elab.async false
set_option linter.all false
set_option maxRecDepth 100000
set_option maxHeartbeats 1000000
namespace L2
open PySem PySem.Spec PyProof.Rows
def SgG (gs : List Go) : Prop := ∀ g ∈ gs, g.sg = 0 ∨ g.sg = 1 ∨ g.sg = -1
def NoDn {α : Type} (p : α → Bool) (l : List α) (i : Nat) : Prop := ∀ (j : Nat) (x : α), j < i → l[j]? = some x → p x = false
section
variable {α : Type} {p : α → Bool} {l : List α} {i : Nat} {x : α}
theorem NoDn.succ (h : NoDn p l i) (hx : l[i]? = some x) (hp : p x = false) : NoDn p l (i + 1) := fun j y hj hy => by
  by_cases z : j = i
  · subst z
    rw [hx] at hy
    cases hy
    exact hp
  · exact h j y (by omega) hy
theorem NoDn.none (h : NoDn p l l.length) : l.findIdx? p = none := by
  rw [List.findIdx?_eq_none_iff]
  intro x hx
  obtain ⟨j, hj⟩ := List.getElem?_of_mem hx
  exact h j x (List.getElem?_eq_some_iff.mp hj).1 hj
theorem NoDn.some (h : NoDn p l i) (hx : l[i]? = some x) (hp : p x = true) : l.findIdx? p = some i := by
  obtain ⟨hi, e⟩ := List.getElem?_eq_some_iff.mp hx
  rw [List.findIdx?_eq_some_iff_getElem]
  refine ⟨hi, by rw [e]; exact hp, fun j hj => ?_⟩
  rw [h j _ hj (List.getElem?_eq_getElem (by omega))]
  exact Bool.false_ne_true
end
section
variable {K : PySem.W.Frag} {σ : St} {H : Hp} {Q : VK} {cs : List Nat} {te : TE}
end
section
variable {K : PySem.W.Frag} {σ : St} {H : Hp} {Q : VK} {cs : List Nat} {te : TE}
end
def IsW43 (H : Hp) (x : V) : Prop := ∃ (w dl gl : Addr) (ins : Nat) (us : List V) (ds : List Wd) (os : List V) (gs : List Go), x = .ref w ∧ Wb H w dl gl ins us ds os gs ∧ WebOk ins ds gs ∧ SgG gs
theorem IsW43.same {H H' : Hp} {x : V} (h : IsW43 H x) (s : Same H H') : IsW43 H' x := by
  obtain ⟨w, dl, gl, ins, us, ds, os, gs, rfl, W, ok, zo⟩ := h
  exact ⟨w, dl, gl, ins, us, ds, os, gs, rfl, W.same s, ok, zo⟩
end L2
set_option Elab.async false
set_option linter.all false
set_option maxRecDepth 100000
set_option maxHeartbeats 1000000
namespace L2
open PySem PySem.Spec PyProof.Rows
def ExB (K : PySem.W.Frag) (B : Addr) : Prop := ∃ bmB, bmB.contains (.type "BaseException") = true ∧ ((∃ newId, PySem.W.excIn K B bmB newId = true) ∨ ∃ newId f, excI K B bmB newId f = true)
theorem ExB.obj {K : PySem.W.Frag} {h : Heap} {C : Addr} (e : ExB K C) (X : K.In h) : ∃ bm N nm q bs hdct sn sub ab col dd k0 k1 k2 k3 k5 newId, h.get? C = some (excClassObj nm q C N bs bm hdct sn sub ab col dd k0 k1 k2 k3 k5 newId) ∧ bm.contains (.type "BaseException") = true := by
  obtain ⟨bmB, hb, ⟨_, q⟩ | ⟨_, _, q⟩⟩ := e
  · obtain ⟨bm, N, nm, q, bs, hdct, sn, sub, ab, col, dd, k0, k1, k2, k3, k5, mN, hC, _, _, T⟩ := exc_obj X q
    exact ⟨_, _, _, _, _, _, _, _, _, _, _, _, _, _, _, _, _, hC, T.hasType hb⟩
  · obtain ⟨bm, N, nm, q, bs, hdct, sn, sub, ab, col, dd, k0, k1, k2, k3, k5, mN, hC, _, _, T⟩ := excI_obj X q
    exact ⟨_, _, _, _, _, _, _, _, _, _, _, _, _, _, _, _, _, hC, T.hasType hb⟩
end L2
set_option Elab.async false
set_option linter.all false
set_option maxRecDepth 100000
set_option maxHeartbeats 1000000
namespace L2
open PySem PySem.Spec PyProof.Rows PySem.W
section
variable {key : Nat → Int} {n : Nat} {p q : Array Nat}
def Kp (key : Nat → Int) (p : Array Nat) (i : Nat) : Int := key (p.getD i 0)
structure POk (key : Nat → Int) (n : Nat) (p : Array Nat) : Prop where
  perm : p.toList.Perm (List.range n)
  inj : ∀ i j, i < n → j < n → key i = key j → i = j
theorem POk.size (h : POk key n p) : p.size = n := by
  have := h.perm.length_eq
  rwa [Array.length_toList, List.length_range] at this
theorem POk.ne (h : POk key n p) {i j : Nat} (hi : i < n) (hj : j < n) (hne : i ≠ j) : Kp key p i ≠ Kp key p j := by
  intro e
  have hs := h.size
  have gi : p.getD i 0 = p.toList[i]'(by rw [Array.length_toList]; omega) := by simp [Array.getD, show i < p.size by omega]
  have gj : p.getD j 0 = p.toList[j]'(by rw [Array.length_toList]; omega) := by simp [Array.getD, show j < p.size by omega]
  have nd : p.toList.Nodup := h.perm.nodup_iff.mpr List.nodup_range
  have li : p.toList[i]'(by rw [Array.length_toList]; omega) < n := List.mem_range.mp (h.perm.mem_iff.mp (List.getElem_mem _))
  have lj : p.toList[j]'(by rw [Array.length_toList]; omega) < n := List.mem_range.mp (h.perm.mem_iff.mp (List.getElem_mem _))
  unfold Kp at e
  rw [gi, gj] at e
  have := h.inj _ _ li lj e
  exact hne ((List.getElem_inj nd).mp this)
theorem POk.lt (h : POk key n p) {i : Nat} (hi : i < n) : p.getD i 0 < n := by
  have hs := h.size
  have gi : p.getD i 0 = p.toList[i]'(by rw [Array.length_toList]; omega) := by simp [Array.getD, show i < p.size by omega]
  rw [gi]
  exact List.mem_range.mp (h.perm.mem_iff.mp (List.getElem_mem _))
theorem POk.nd (h : POk key n p) {i j : Nat} (hi : i < n) (hj : j < n) (hne : i ≠ j) : p.getD i 0 ≠ p.getD j 0 := fun e => h.ne hi hj hne (by unfold Kp; rw [e])
theorem POk.of (h : POk key n p) (hq : q.Perm p) : POk key n q := ⟨(Array.perm_iff_toList_perm.mp hq).trans h.perm, h.inj⟩
def Sto (key : Nat → Int) (p : Array Nat) (k : Nat) : Prop := ∀ i j, i < j → j < k → Kp key p i < Kp key p j
def Dto (key : Nat → Int) (p : Array Nat) (k : Nat) : Prop := ∀ i j, i < j → j < k → Kp key p j < Kp key p i
theorem Sto.ext {k : Nat} (h : Sto key p k) (hk : 1 ≤ k) (hl : Kp key p (k - 1) < Kp key p k) : Sto key p (k + 1) := fun i j hij hj => by
  by_cases z : j = k
  · subst z
    by_cases y : i = j - 1
    · rw [y]; exact hl
    · exact Int.lt_trans (h i (j - 1) (by omega) (by omega)) hl
  · exact h i j hij (by omega)
theorem Dto.ext {k : Nat} (h : Dto key p k) (hk : 1 ≤ k) (hl : Kp key p k < Kp key p (k - 1)) : Dto key p (k + 1) := fun i j hij hj => by
  by_cases z : j = k
  · subst z
    by_cases y : i = j - 1
    · rw [y]; exact hl
    · exact Int.lt_trans hl (h i (j - 1) (by omega) (by omega))
  · exact h i j hij (by omega)
end
end L2
set_option Elab.async false
set_option linter.all false
set_option maxRecDepth 100000
set_option maxHeartbeats 1000000
namespace L2
open PySem PySem.Spec PyProof.Rows PySem.W
def Pr2 (h : Heap) (v : Value) (k : Int) : Prop := ∃ (a : Addr) (o : Obj) (t : Tok) (y : Value) (c : Nat), v = .ref a ∧ h.get? a = some o ∧ o.cls = .type "tuple" ∧ o.data = .seq #[.int k t, y] c
theorem Pr2.keep {h h' : Heap} {v : Value} {k : Int} (p : Pr2 h v k) (hk : ∀ b o, h.get? b = some o → o.cls = .type "tuple" → h'.get? b = some o) : Pr2 h' v k := by
  obtain ⟨a, o, t, y, c, e, ho, hc, hd⟩ := p
  exact ⟨a, o, t, y, c, e, hk a o ho hc, hc, hd⟩
structure Prs (h : Heap) (vs : List Value) (ks : List Int) : Prop where
  len : ks.length = vs.length
  at_ : ∀ (i : Nat) (v : Value) (k : Int), vs[i]? = some v → ks[i]? = some k → Pr2 h v k
  nd : ks.Nodup
section
variable {prog : Program} {w : World} {A : Around} {E : Value → Shared → Prop} {s : Shared} {vs : List Value} {ks : List Int}
theorem Prs.get (p : Prs s.heap vs ks) {i : Nat} (hi : i < vs.length) : Pr2 s.heap (vs.getD i .none) (ks.getD i 0) := by
  have e1 : vs[i]? = some vs[i] := List.getElem?_eq_getElem hi
  have e2 : ks[i]? = some (ks[i]'(by rw [p.len]; exact hi)) := List.getElem?_eq_getElem _
  have := p.at_ i _ _ e1 e2
  rw [List.getD_eq_getElem?_getD, List.getD_eq_getElem?_getD, e1, e2]
  exact this
theorem Prs.inj (p : Prs s.heap vs ks) (i j : Nat) (hi : i < vs.length) (hj : j < vs.length) (e : ks.getD i 0 = ks.getD j 0) : i = j := by
  have e1 : ks[i]? = some (ks[i]'(by rw [p.len]; exact hi)) := List.getElem?_eq_getElem _
  have e2 : ks[j]? = some (ks[j]'(by rw [p.len]; exact hj)) := List.getElem?_eq_getElem _
  rw [List.getD_eq_getElem?_getD, List.getD_eq_getElem?_getD, e1, e2] at e
  exact (List.getElem_inj p.nd).mp e
end
end L2
set_option Elab.async false
set_option linter.all false
set_option maxRecDepth 100000
set_option maxHeartbeats 1000000
namespace L2
open PySem PySem.Spec PyProof.Rows PySem.W
structure Cts (top : Int) (ps : List (Int × V)) : Prop where
  nd : (ps.map (·.1)).Nodup
  odd : ∀ p ∈ ps, p.1 % 2 = 1 ∧ 1 ≤ p.1 ∧ p.1 ≤ top
  one : (1, V.int 0) ∈ ps
theorem Cts.len {top : Int} {ps : List (Int × V)} (h : Cts top ps) (ht : top ≤ 99) : 0 < ps.length ∧ ps.length < 64 := by
  refine ⟨List.length_pos_of_mem h.one, ?_⟩
  have := nodup_len (m := (List.range 50).map fun (i : Nat) => 2 * (i : Int) + 1) h.nd fun x hx => by
    obtain ⟨p, hp, rfl⟩ := List.mem_map.mp hx
    obtain ⟨h1, h2, h3⟩ := h.odd p hp
    exact List.mem_map.mpr ⟨((p.1 - 1) / 2).toNat, List.mem_range.mpr (by omega), by omega⟩
  rw [List.length_map, List.length_map, List.length_range] at this
  omega
theorem Cts.put {top : Int} {ps : List (Int × V)} {k : Int} {y : V} (h : Cts top ps) (hk : k ∉ ps.map (·.1)) (ho : k % 2 = 1 ∧ 1 ≤ k ∧ k ≤ top) : Cts top (ps ++ [(k, y)]) := by
  refine ⟨?_, fun p hp => ?_, List.mem_append_left _ h.one⟩
  · rw [List.map_append, List.nodup_append]
    exact ⟨h.nd, by simp, fun a ha b hb e => hk (by rw [List.mem_singleton.mp hb] at e; rw [show k = a from e.symm]; exact ha)⟩
  · rcases List.mem_append.mp hp with z | z
    · exact h.odd p z
    · rw [List.mem_singleton.mp z]; exact ho
theorem Cts.first {top : Int} {ps qs : List (Int × V)} (h : Cts top ps) (hp : qs.Perm ps) (hs : (qs.map (·.1)).Pairwise (· < ·)) : ∃ r, qs = (1, .int 0) :: r := by
  have m := hp.mem_iff.mpr h.one
  cases qs with
  | nil => cases m
  | cons q r =>
    rcases List.mem_cons.mp m with z | z
    · exact ⟨r, by rw [z]⟩
    · rw [List.map_cons, List.pairwise_cons] at hs
      have := hs.1 1 (List.mem_map.mpr ⟨_, z, rfl⟩)
      have := (h.odd q (hp.mem_iff.mp List.mem_cons_self)).2.1
      omega
def NoL (K : PySem.W.Frag) (H : Hp) (v : V) : Prop := ∀ Q : VK, Q (.bl false) H → rIsI K [v, .ty "list"] H Q
def NoPaper (K : PySem.W.Frag) (H : Hp) (v : V) (most : Int) : Prop := NoL K H v ∨ ∃ p xs, v = .ref p ∧ H p = some (.lst xs) ∧ (((xs.length : Nat) : Int) ≠ most ∨ xs = [.non])
theorem kit_non_list {K : PySem.W.Frag} : kitOne K (.type "NoneType") (.type "list") = some false := by kernel_rfl
mutual
theorem Is.same {K : PySem.W.Frag} {H H' : Hp} (s : Same H H') : ∀ {d : Dt} {v : V}, Is K H v d → Is K H' v d
  | .f y, v, h => by rw [Is] at h ⊢; exact h
  | .l ds, v, h => by
    rw [Is] at h ⊢
    obtain ⟨p, xs, e, h1, h2⟩ := h
    exact ⟨p, xs, e, s.seq h1, IsL.same s h2⟩
  | .t ds, v, h => by
    rw [Is] at h ⊢
    obtain ⟨p, xs, e, h1, h2⟩ := h
    exact ⟨p, xs, e, s.seqT h1, IsL.same s h2⟩
theorem IsL.same {K : PySem.W.Frag} {H H' : Hp} (s : Same H H') : ∀ {ds : List Dt} {vs : List V}, IsL K H vs ds → IsL K H' vs ds
  | [], vs, h => by rw [IsL] at h ⊢; exact h
  | d :: ds, vs, h => by
    rw [IsL] at h ⊢
    obtain ⟨x, r, e, h1, h2⟩ := h
    exact ⟨x, r, e, Is.same s h1, IsL.same s h2⟩
end
section
variable {K : PySem.W.Frag} {σ : St} {H : Hp} {Q : VK} {cs : List Nat} {te : TE}
end
end L2
set_option Elab.async false
set_option linter.all false
set_option maxRecDepth 100000
set_option maxHeartbeats 1000000
namespace L2
open PySem PySem.Spec PyProof.Rows
end L2
set_option Elab.async false
set_option linter.all false
set_option maxRecDepth 100000
set_option maxHeartbeats 1000000
namespace L2
open PySem PySem.Spec PyProof.Rows
def Thg (H : Hp) (v : V) : Prop := v = .non ∨ (∃ i, v = .int i) ∨ (∃ s, v = .str s) ∨ ∃ p, v = .ref p ∧ (H p = some (.tup []) ∨ H p = some (.dK []) ∨ ∃ xs, H p = some (.lst xs) ∧ (4 < xs.length ∨ xs = [.non]))
theorem Thg.same {H H' : Hp} {v : V} (h : Thg H v) (s : Same H H') : Thg H' v := by
  rcases h with h | h | h | ⟨p, e, h⟩
  · exact .inl h
  · exact .inr (.inl h)
  · exact .inr (.inr (.inl h))
  · refine .inr (.inr (.inr ⟨p, e, ?_⟩))
    rcases h with h | h | ⟨xs, h, h2⟩
    · exact .inl (s _ _ h)
    · exact .inr (.inl (s _ _ h))
    · exact .inr (.inr ⟨xs, s _ _ h, h2⟩)
theorem kit_int_list {K : PySem.W.Frag} : PySem.W.kitOne K (.type "int") (.type "list") = some false := by kernel_rfl
theorem kit_str_list {K : PySem.W.Frag} : PySem.W.kitOne K (.type "str") (.type "list") = some false := by kernel_rfl
theorem kit_tup_list {K : PySem.W.Frag} : PySem.W.kitOne K (.type "tuple") (.type "list") = some false := by kernel_rfl
theorem kit_dict_list {K : PySem.W.Frag} : PySem.W.kitOne K (.type "dict") (.type "list") = some false := by kernel_rfl
theorem Thg.no {K : PySem.W.Frag} {H : Hp} {v : V} {most : Int} (h : Thg H v) (hm : most ≤ 4) : NoPaper K H v most := by
  rcases h with rfl | ⟨i, rfl⟩ | ⟨s, rfl⟩ | ⟨p, rfl, h | h | ⟨xs, h, h2⟩⟩
  · exact .inl fun Q q => ⟨_, _, _, _, rfl, .non, kit_non_list, q⟩
  · exact .inl fun Q q => ⟨_, _, _, _, rfl, .int i, kit_int_list, q⟩
  · exact .inl fun Q q => ⟨_, _, _, _, rfl, .str s, kit_str_list, q⟩
  · exact .inl fun Q q => ⟨_, _, _, _, rfl, .tup h, kit_tup_list, q⟩
  · exact .inl fun Q q => ⟨_, _, _, _, rfl, .dK h, kit_dict_list, q⟩
  · refine .inr ⟨p, xs, rfl, h, ?_⟩
    rcases h2 with z | z
    · exact .inl (by omega)
    · exact .inr z
section
variable {X : Cx} {pos : Pos}
end
theorem Thg.chg {H H' : Hp} {v : V} {p a : Addr} {c : Int} (h : Thg H v) (hP : PPen H p a c) (C : Chg p H H') : Thg H' v := by
  rcases h with h | h | h | ⟨b, e, h⟩
  · exact .inl h
  · exact .inr (.inl h)
  · exact .inr (.inr (.inl h))
  · obtain ⟨x, y, hp, _⟩ := hP
    have bp : b ≠ p := by
      rintro rfl
      rcases h with h | h | ⟨xs, h, h2⟩
      · rw [hp] at h; cases h
      · rw [hp] at h; cases h
      · rw [hp] at h
        cases h
        rcases h2 with z | z
        · simp at z
        · cases z
    refine .inr (.inr (.inr ⟨b, e, ?_⟩))
    rcases h with h | h | ⟨xs, h, h2⟩
    · exact .inl (C _ _ bp h)
    · exact .inr (.inl (C _ _ bp h))
    · exact .inr (.inr ⟨xs, C _ _ bp h, h2⟩)
def rIsB : R2 := fun x y H Q => ∃ b c, x = .bl b ∧ y = .bl c ∧ Q (.bl (decide (b = c))) H
theorem op_isB {X : Cx} : OpR X (compareOp .Is) rIsB := by
  rintro pins s σ H x y v u Q I r1 r2 ⟨b, c, rfl, rfl, q⟩
  cases r1
  cases r2
  refine wpAny_is_plain rfl ⟨.bl _, H, I, ?_, q⟩
  cases b <;> cases c <;> rfl
end L2
set_option Elab.async false
set_option linter.all false
set_option maxRecDepth 100000
set_option maxHeartbeats 1000000
namespace L2
open PySem PySem.Spec PyProof.Rows
end L2
set_option Elab.async false
set_option linter.all false
set_option maxRecDepth 100000
set_option maxHeartbeats 1000000
namespace L2
open PySem PySem.Spec PyProof.Rows
def Ex (s v : Int) : Prop := s < 0 → (2 : Int) ^ (-s).toNat ∣ v
def Sx (s v w : Int) : Prop := w * 2 ^ (-s).toNat = v * 2 ^ s.toNat
theorem Ex.sx {s v : Int} (h : Ex s v) : Sx s v (mvI s v) := by
  unfold Sx
  by_cases z : s < 0
  · rw [mvI_down z, show s.toNat = 0 by omega, Int.pow_zero, Int.mul_one]
    exact Int.ediv_mul_cancel (h z)
  · rw [mvI_up (by omega), show (-s).toNat = 0 by omega, Int.pow_zero, Int.mul_one]
theorem Sx.ex {s v w : Int} (h : Sx s v w) : Ex s v ∧ mvI s v = w := by
  unfold Sx at h
  by_cases z : s < 0
  · rw [show s.toNat = 0 by omega, Int.pow_zero, Int.mul_one] at h
    refine ⟨fun _ => ⟨w, by rw [← h, Int.mul_comm]⟩, ?_⟩
    rw [mvI_down z, ← h]
    exact Int.mul_ediv_cancel _ (by have := pow_pos2 (-s).toNat; omega)
  · rw [show (-s).toNat = 0 by omega, Int.pow_zero, Int.mul_one] at h
    exact ⟨fun y => absurd y z, by rw [mvI_up (by omega), h]⟩
theorem Sx.add {s t v w u : Int} (h1 : Sx s v w) (h2 : Sx t w u) : Sx (s + t) v u := by
  unfold Sx at *
  obtain ⟨c, e1, e2⟩ : ∃ c : Nat, (-t).toNat + (-s).toNat = (-(s + t)).toNat + c ∧ s.toNat + t.toNat = (s + t).toNat + c := ⟨(-t).toNat + (-s).toNat - (-(s + t)).toNat, by omega, by omega⟩
  have pc := pow_pos2 c
  have k : u * 2 ^ ((-t).toNat + (-s).toNat) = v * 2 ^ (s.toNat + t.toNat) := by
    rw [Int.pow_add, Int.pow_add, ← Int.mul_assoc, h2, ← Int.mul_assoc, ← h1, Int.mul_assoc, Int.mul_assoc, Int.mul_comm (2 ^ t.toNat)]
  rw [e1, e2, Int.pow_add, Int.pow_add, ← Int.mul_assoc, ← Int.mul_assoc] at k
  exact Int.eq_of_mul_eq_mul_right (by omega) k
theorem mv_add {s t v : Int} (h1 : Ex s v) (h2 : Ex t (mvI s v)) : Ex (s + t) v ∧ mvI (s + t) v = mvI t (mvI s v) := (h1.sx.add h2.sx).ex
theorem Ex.neg {s v : Int} (h : Ex s v) : Ex s (-v) := fun z => Int.dvd_neg.mpr (h z)
theorem mv_neg {s v : Int} (h : Ex s v) : mvI s (-v) = - mvI s v := by
  refine (Sx.ex ?_).2
  have := h.sx
  unfold Sx at *
  rw [Int.neg_mul, Int.neg_mul, this]
theorem Ex.zero (s : Int) : Ex s 0 := fun _ => Int.dvd_zero _
def movG (p : Go) (s g : Int) : Go := if p.sg * g = 0 then ⟨0, 0, 0⟩ else ⟨p.th, p.sh + s, p.sg * g⟩
def deedG (p q : Go) : Wd := if p.sg = q.sg then ⟨Str.ofString "sum", p.th, p.sh, q.th, q.sh⟩ else if p.sg = 1 then ⟨Str.ofString "less", p.th, p.sh, q.th, q.sh⟩ else ⟨Str.ofString "less", q.th, q.sh, p.th, p.sh⟩
def signG (p q : Go) : Int := if p.sg = q.sg then p.sg else 1
def addG (ins : Nat) (ds : List Wd) (p q : Go) : List Wd := if p.sg = 0 then ds else if q.sg = 0 then ds else ds ++ [deedG p q]
def addP (ins : Nat) (ds : List Wd) (p q : Go) : Go := if p.sg = 0 then q else if q.sg = 0 then p else ⟨ins + ds.length, 0, signG p q⟩
def g0 : Go := ⟨0, 0, 0⟩
def SgOk (p : Go) : Prop := p = g0 ∨ p.sg = 1 ∨ p.sg = -1
theorem SgOk.cases {p : Go} (h : SgOk p) : (p.sg = 0 ∧ p = g0) ∨ p.sg = 1 ∨ p.sg = -1 := by
  rcases h with z | z | z
  · exact .inl ⟨by rw [z]; rfl, z⟩
  · exact .inr (.inl z)
  · exact .inr (.inr z)
structure PtOkV (n : Nat) (vs : List Int) (p : Go) : Prop where
  th : p.th < n
  sg : SgOk p
  ex : Ex p.sh (vs.getD p.th 0)
theorem mov_val {n : Nat} {vs : List Int} {p : Go} {s g : Int} (h : PtOkV n vs p) (hn : 0 < n) (hg : g = 1 ∨ g = -1) (he : Ex s (outV vs p)) : PtOkV n vs (movG p s g) ∧ outV vs (movG p s g) = g * mvI s (outV vs p) := by
  rcases h.sg.cases with ⟨z, z0⟩ | z
  · have e : movG p s g = g0 := by unfold movG; rw [if_pos (by rw [z, Int.zero_mul])]; rfl
    rw [e]
    refine ⟨⟨hn, .inl rfl, fun y => absurd y (by decide)⟩, ?_⟩
    unfold outV g0
    rw [z, Int.zero_mul, Int.zero_mul, mvI_0, Int.mul_zero]
  · have e : movG p s g = ⟨p.th, p.sh + s, p.sg * g⟩ := by
      unfold movG
      rw [if_neg]
      rcases z with z | z <;> rcases hg with y | y <;> rw [z, y] <;> decide
    have he' : Ex s (mvI p.sh (vs.getD p.th 0)) := by
      unfold outV at he
      rcases z with z | z
      · rw [z, Int.one_mul] at he; exact he
      · rw [z, Int.neg_one_mul] at he
        have := he.neg
        rw [Int.neg_neg] at this
        exact this
    obtain ⟨m1, m2⟩ := mv_add h.ex he'
    rw [e]
    refine ⟨⟨h.th, .inr ?_, m1⟩, ?_⟩
    · show p.sg * g = 1 ∨ p.sg * g = -1
      rcases z with z | z <;> rcases hg with y | y <;> rw [z, y] <;> decide
    · unfold outV
      show p.sg * g * mvI (p.sh + s) (vs.getD p.th 0) = _
      rw [m2]
      rcases z with z | z
      · rw [z, Int.one_mul, Int.one_mul]
      · rw [z, Int.neg_one_mul (mvI p.sh _), mv_neg he', Int.neg_one_mul, Int.neg_mul, Int.mul_neg]
theorem deedG_val {vs : List Int} {p q : Go} (hp : p.sg = 1 ∨ p.sg = -1) (hq : q.sg = 1 ∨ q.sg = -1) : signG p q * valD vs (deedG p q) = outV vs p + outV vs q := by
  unfold deedG signG valD outV
  have l1 : sgW (Str.ofString "sum") = 1 := by decide
  have l2 : sgW (Str.ofString "less") = -1 := by decide
  rcases hp with z | z <;> rcases hq with y | y <;> rw [z, y]
  · rw [if_pos rfl, if_pos rfl]; simp only [l1, Int.one_mul]
  · rw [if_neg (by decide), if_neg (by decide), if_pos rfl]; simp only [l2, Int.one_mul]
  · rw [if_neg (by decide), if_neg (by decide), if_neg (by decide)]; simp only [l2, Int.one_mul]; rw [Int.add_comm]
  · rw [if_pos rfl, if_pos rfl]; simp only [l1, Int.one_mul]; rw [Int.mul_add]
def ExD (xs : List Int) (ds : List Wd) : Prop := ∀ (k : Nat) (d : Wd), ds[k]? = some d → d.a < xs.length + k ∧ d.b < xs.length + k ∧ (d.w = "sum" ∨ d.w = "less") ∧ Ex d.s ((valsW xs ds).getD d.a 0) ∧ Ex d.t ((valsW xs ds).getD d.b 0)
theorem ExD.pre {xs : List Int} {e : List Wd} {d : Wd} (h : ExD xs (e ++ [d])) : ExD xs e := fun k x hk => by
  have kl := (List.getElem?_eq_some_iff.mp hk).1
  obtain ⟨h1, h2, h3, h4, h5⟩ := h k x (by rw [List.getElem?_append_left kl]; exact hk)
  rw [valsW_stay (by omega)] at h4
  rw [valsW_stay (by omega)] at h5
  exact ⟨h1, h2, h3, h4, h5⟩
theorem ExD.snoc {xs : List Int} {e : List Wd} {d : Wd} (h : ExD xs e) (h1 : d.a < xs.length + e.length) (h2 : d.b < xs.length + e.length) (h3 : d.w = "sum" ∨ d.w = "less") (h4 : Ex d.s ((valsW xs e).getD d.a 0)) (h5 : Ex d.t ((valsW xs e).getD d.b 0)) : ExD xs (e ++ [d]) := fun k x hk => by
  rcases get_snoc hk with ⟨kl, z⟩ | ⟨kl, rfl⟩
  · obtain ⟨a1, a2, a3, a4, a5⟩ := h k x z
    rw [valsW_stay (by omega), valsW_stay (by omega)]
    exact ⟨a1, a2, a3, a4, a5⟩
  · rw [valsW_stay h1, valsW_stay h2, kl]
    exact ⟨h1, h2, h3, h4, h5⟩
theorem PtOkV.more {xs : List Int} {ds : List Wd} {d : Wd} {p : Go} (h : PtOkV (xs.length + ds.length) (valsW xs ds) p) : PtOkV (xs.length + (ds ++ [d]).length) (valsW xs (ds ++ [d])) p ∧ outV (valsW xs (ds ++ [d])) p = outV (valsW xs ds) p := by
  refine ⟨⟨by have := h.th; rw [List.length_append]; simp; omega, h.sg, by rw [valsW_stay h.th]; exact h.ex⟩, ?_⟩
  unfold outV
  rw [valsW_stay h.th]
end L2
set_option Elab.async false
set_option linter.all false
set_option maxRecDepth 100000
set_option maxHeartbeats 1000000
namespace L2
open PySem PySem.Spec PyProof.Rows
section
variable {K : PySem.W.Frag} {σ : St} {H : Hp} {Q : VK} {cs : List Nat} {te : TE} {tt : TT}
end
end L2
set_option Elab.async false
set_option linter.all false
set_option maxRecDepth 100000
set_option maxHeartbeats 1000000
namespace L2
open PySem PySem.Spec PyProof.Rows
def Sh4 (s : Int) (r : List Int) : Prop := -4000 ≤ s ∧ s ≤ 4000 ∧ Dv s r
theorem Sh.s4 {s : Int} {r : List Int} (h : Sh s r) : Sh4 s r := ⟨by have := h.1; omega, by have := h.2.1; omega, h.2.2⟩
structure FW4 (ins : Nat) (ds : List Wd) (gs : List Go) : Prop where
  ok : WebOk ins ds gs
  sh : ∀ (k : Nat) (d : Wd), ds[k]? = some d → d.a < ins + k ∧ d.b < ins + k ∧ Sh4 d.s ((rowsW ins ds).getD d.a []) ∧ Sh4 d.t ((rowsW ins ds).getD d.b [])
  go : ∀ g ∈ gs, g = ⟨0, 0, 0⟩ ∨ ((g.sg = 1 ∨ g.sg = -1) ∧ Sh4 g.sh ((rowsW ins ds).getD g.th []))
  rb : RB 8000 (rowsW ins ds)
  wd : ∀ r ∈ rowsW ins ds, r.length = ins
theorem FWeb.f4 {ins : Nat} {ds : List Wd} {gs : List Go} (F : FWeb ins ds gs) : FW4 ins ds gs :=
  ⟨F.ok, fun k d h => ⟨(F.sh k d h).1, (F.sh k d h).2.1, (F.sh k d h).2.2.1.s4, (F.sh k d h).2.2.2.s4⟩, fun g hg => (F.go g hg).imp id fun z => ⟨z.1, z.2.s4⟩,
    fun r hr => ⟨(F.rb r hr).1, fun n hn => Nat.le_trans ((F.rb r hr).2 n hn) (Nat.pow_le_pow_right (by decide) (by have := F.ok.dl; omega))⟩, F.wd⟩
theorem FWeb.sg {ins : Nat} {ds : List Wd} {gs : List Go} (F : FWeb ins ds gs) : ∀ g ∈ gs, g.sg = 0 ∨ g.sg = 1 ∨ g.sg = -1 := fun g hg => by
  rcases F.go g hg with z | z
  · exact .inl (by rw [z])
  · exact .inr z.1
section
variable {ins m : Nat} {s1 s2 : List Wd} {t1 t2 : List Go}
end
end L2
set_option Elab.async false
set_option linter.all false
set_option maxRecDepth 100000
set_option maxHeartbeats 1000000
namespace L2
open PySem PySem.Spec PyProof.Rows
section
variable {K : PySem.W.Frag} {σ : St} {H : Hp} {Q : VK} {cs : List Nat} {te : TE}
end
section
variable {K : PySem.W.Frag} {σ : St} {H : Hp} {Q : VK} {cs : List Nat} {te : TE}
end
theorem LL.snoc {H H' : Hp} {l r : Addr} {vs : List V} {cs : List (List Int)} {c : List Int} (h : LL H l cs) (hl : H l = some (.lst vs)) (hr : H r = some (.lst (c.map V.int))) (rl : r ≠ l) (C : Chg l H H') (h' : H' l = some (.lst (vs ++ [.ref r]))) : LL H' l (cs ++ [c]) := by
  obtain ⟨vs', h1, h2, h3⟩ := h
  rw [hl] at h1
  cases h1
  refine ⟨_, h', by rw [List.length_append, List.length_append, h2]; rfl, fun i x hx => ?_⟩
  rcases get_snoc hx with ⟨il, z⟩ | ⟨il, rfl⟩
  · obtain ⟨p, a, b, d⟩ := h3 i x z
    exact ⟨p, by rw [List.getElem?_append_left (by omega)]; exact a, b, C _ _ b d⟩
  · exact ⟨r, by rw [List.getElem?_append_right (by omega), il, h2, Nat.sub_self]; rfl, rl, C _ _ rl hr⟩
end L2
set_option Elab.async false
set_option linter.all false
set_option maxRecDepth 100000
set_option maxHeartbeats 1000000
namespace L2
open PySem PySem.Spec PyProof.Rows
def zT (zs : List Int) (a : Ar) : List Int := zs.set a.st (zs.getD a.st 0 + a.sg * mvI a.sh (zs.getD a.go 0))
def zF (zs : List Int) (as : List Ar) : List Int := as.reverse.foldl zT zs
theorem zF_snoc (zs : List Int) (as : List Ar) (a : Ar) : zF zs (as ++ [a]) = zF (zT zs a) as := by unfold zF; rw [List.reverse_append]; rfl
def zs0 (n : Nat) (ys : List Int) : List Int := List.replicate n 0 ++ ys
def turnT (m : Nat) (a : List Wd × List Go) (r : Ar) : List Wd × List Go :=
  let p := a.2.getD r.st g0
  let q := movG (a.2.getD r.go g0) r.sh r.sg
  (addG m a.1 p q, a.2.set r.st (addP m a.1 p q))
def turnF (m : Nat) (a : List Wd × List Go) (as : List Ar) : List Wd × List Go := as.reverse.foldl (turnT m) a
theorem turnF_snoc (m : Nat) (a : List Wd × List Go) (as : List Ar) (r : Ar) : turnF m a (as ++ [r]) = turnF m (turnT m a r) as := by unfold turnF; rw [List.reverse_append]; rfl
structure TrV (ys : List Int) (D : List Wd) (st : List Go) : Prop where
  ex : ExD ys D
  pt : ∀ (k : Nat) (p : Go), st[k]? = some p → PtOkV (ys.length + D.length) (valsW ys D) p ∧ 0 ≤ p.sh
theorem Ex.up {s v : Int} (h : 0 ≤ s) : Ex s v := fun z => absurd z (by omega)
theorem mov_up {p : Go} {s g : Int} (h : 0 ≤ p.sh) (hs : 0 ≤ s) : 0 ≤ (movG p s g).sh := by
  unfold movG
  split
  · exact Int.le_refl 0
  · show 0 ≤ p.sh + s
    omega
theorem trv_step {ys : List Int} {D : List Wd} {st : List Go} {r : Ar} (h : TrV ys D st) (hy : 0 < ys.length) (h1 : r.st < st.length) (h2 : r.go < st.length) (h3 : 0 ≤ r.sh) (h4 : r.sg = 1 ∨ r.sg = -1) :
    TrV ys (turnT ys.length (D, st) r).1 (turnT ys.length (D, st) r).2 ∧ (turnT ys.length (D, st) r).2.map (outV (valsW ys (turnT ys.length (D, st) r).1)) = zT (st.map (outV (valsW ys D))) r := by
  have ea := List.getElem?_eq_getElem h1
  have eb := List.getElem?_eq_getElem h2
  obtain ⟨pa, pas⟩ := h.pt _ _ ea
  obtain ⟨pb, pbs⟩ := h.pt _ _ eb
  have ga : st.getD r.st g0 = st[r.st] := getD_of ea
  have gb : st.getD r.go g0 = st[r.go] := getD_of eb
  obtain ⟨q1, q2⟩ := mov_val (s := r.sh) (g := r.sg) pb (by omega) h4 (Ex.up h3)
  have q3 : 0 ≤ (movG st[r.go] r.sh r.sg).sh := mov_up pbs h3
  have va : (st.map (outV (valsW ys D))).getD r.st 0 = outV (valsW ys D) st[r.st] := getD_of (by rw [List.getElem?_map, ea]; rfl)
  have vb : (st.map (outV (valsW ys D))).getD r.go 0 = outV (valsW ys D) st[r.go] := getD_of (by rw [List.getElem?_map, eb]; rfl)
  unfold turnT zT
  dsimp only
  rw [ga, gb, va, vb, ← q2]
  generalize st[r.st] = p at pa pas
  generalize movG st[r.go] r.sh r.sg = q at q1 q3
  clear ga gb va vb q2 pb pbs ea eb
  have mem : ∀ (x : Go) (k : Nat) (y : Go), (st.set r.st x)[k]? = some y → (k = r.st ∧ y = x) ∨ st[k]? = some y := fun x k y hk => by
    by_cases z : r.st = k
    · subst z
      rw [List.getElem?_set_self h1] at hk
      exact .inl ⟨rfl, (Option.some.inj hk).symm⟩
    · rw [List.getElem?_set_ne z] at hk
      exact .inr hk
  have keep : ∀ x : Go, PtOkV (ys.length + D.length) (valsW ys D) x → 0 ≤ x.sh → outV (valsW ys D) x = outV (valsW ys D) p + outV (valsW ys D) q → TrV ys D (st.set r.st x) ∧ (st.set r.st x).map (outV (valsW ys D)) = (st.map (outV (valsW ys D))).set r.st (outV (valsW ys D) p + outV (valsW ys D) q) := fun x px xs vx => by
    refine ⟨⟨h.ex, fun k y hk => ?_⟩, by rw [List.map_set, vx]⟩
    rcases mem x k y hk with ⟨_, z⟩ | z
    · rw [z]; exact ⟨px, xs⟩
    · exact h.pt k y z
  rcases pa.sg.cases with ⟨z, z0⟩ | zp
  · unfold addG addP
    rw [if_pos z, if_pos z]
    refine keep q q1 q3 ?_
    have : outV (valsW ys D) p = 0 := by unfold outV; rw [z, Int.zero_mul]
    rw [this, Int.zero_add]
  have np : p.sg ≠ 0 := by omega
  rcases q1.sg.cases with ⟨z, z0⟩ | zq
  · unfold addG addP
    rw [if_neg np, if_neg np, if_pos z, if_pos z]
    refine keep p pa pas ?_
    have : outV (valsW ys D) q = 0 := by unfold outV; rw [z, Int.zero_mul]
    rw [this, Int.add_zero]
  have nq : q.sg ≠ 0 := by omega
  unfold addG addP
  rw [if_neg np, if_neg np, if_neg nq, if_neg nq]
  have dv := deedG_val (vs := valsW ys D) zp zq
  have sgn : signG p q = 1 ∨ signG p q = -1 := by unfold signG; split <;> omega
  have vD : valsW ys (D ++ [deedG p q]) = valsW ys D ++ [valD (valsW ys D) (deedG p q)] := valsW_snoc _ _ _
  have last : (valsW ys (D ++ [deedG p q])).getD (ys.length + D.length) 0 = valD (valsW ys D) (deedG p q) := by
    rw [vD]
    refine getD_of ?_
    rw [List.getElem?_append_right (by rw [valsW_len]; exact Nat.le_refl _), valsW_len, Nat.sub_self]
    rfl
  have vnew : outV (valsW ys (D ++ [deedG p q])) ⟨ys.length + D.length, 0, signG p q⟩ = outV (valsW ys D) p + outV (valsW ys D) q := by
    unfold outV
    show signG p q * mvI 0 ((valsW ys (D ++ [deedG p q])).getD (ys.length + D.length) 0) = _
    rw [last, mvI_zero, dv]
    rfl
  have hdd : ExD ys (D ++ [deedG p q]) := by
    unfold deedG
    split
    · exact h.ex.snoc pa.th q1.th (.inl rfl) pa.ex q1.ex
    · split
      · exact h.ex.snoc pa.th q1.th (.inr rfl) pa.ex q1.ex
      · exact h.ex.snoc q1.th pa.th (.inr rfl) q1.ex pa.ex
  refine ⟨⟨hdd, fun k y hk => ?_⟩, ?_⟩
  · rcases mem _ k y hk with ⟨_, z⟩ | z
    · rw [z]
      exact ⟨⟨by rw [List.length_append]; simp, .inr sgn, Ex.up (Int.le_refl 0)⟩, Int.le_refl 0⟩
    · obtain ⟨c1, c2⟩ := h.pt k y z
      exact ⟨c1.more.1, c2⟩
  · rw [List.map_set, vnew]
    congr 1
    refine List.map_congr_left fun y hy => ?_
    obtain ⟨k, hk⟩ := List.getElem?_of_mem hy
    exact (h.pt k y hk).1.more.2
theorem turn_val {ys : List Int} (hy : 0 < ys.length) (as : List Ar) : ∀ (D : List Wd) (st : List Go), (∀ r ∈ as, r.st < st.length ∧ r.go < st.length ∧ 0 ≤ r.sh ∧ (r.sg = 1 ∨ r.sg = -1)) → TrV ys D st →
    TrV ys (turnF ys.length (D, st) as).1 (turnF ys.length (D, st) as).2 ∧ (turnF ys.length (D, st) as).2.map (outV (valsW ys (turnF ys.length (D, st) as).1)) = zF (st.map (outV (valsW ys D))) as := by
  refine snoc_ind (p := fun as => ∀ (D : List Wd) (st : List Go), (∀ r ∈ as, r.st < st.length ∧ r.go < st.length ∧ 0 ≤ r.sh ∧ (r.sg = 1 ∨ r.sg = -1)) → TrV ys D st →
    TrV ys (turnF ys.length (D, st) as).1 (turnF ys.length (D, st) as).2 ∧ (turnF ys.length (D, st) as).2.map (outV (valsW ys (turnF ys.length (D, st) as).1)) = zF (st.map (outV (valsW ys D))) as) (fun D st _ h => ⟨h, rfl⟩) (fun e r ih D st hr h => ?_) as
  obtain ⟨h1, h2, h3, h4⟩ := hr r (List.mem_append_right _ (List.mem_singleton.mpr rfl))
  obtain ⟨s1, s2⟩ := trv_step h hy h1 h2 h3 h4
  rw [turnF_snoc, zF_snoc, ← s2]
  refine ih _ _ (fun x hx => ?_) s1
  have := hr x (List.mem_append_left _ hx)
  rw [List.length_set]
  exact this
end L2
set_option Elab.async false
set_option linter.all false
set_option maxRecDepth 100000
set_option maxHeartbeats 1000000
namespace L2
open PySem PySem.Spec PyProof.Rows
structure Pot (ins : Nat) (ds : List Wd) (gs : List Go) (μ : List Int) (B : Int) : Prop where
  len : μ.length = ins + ds.length
  nn : ∀ k, 0 ≤ μ.getD k 0 ∧ μ.getD k 0 ≤ B
  dk : ∀ (k : Nat) (d : Wd), ds[k]? = some d → 0 ≤ d.s ∧ 0 ≤ d.t ∧ μ.getD d.a 0 + d.s ≤ μ.getD (ins + k) 0 ∧ μ.getD d.b 0 + d.t ≤ μ.getD (ins + k) 0
  gk : ∀ g ∈ gs, 0 ≤ g.sh ∧ (g.sg ≠ 0 → μ.getD g.th 0 + g.sh ≤ B)
structure TrP (m : Nat) (κ : List Int) (B : Int) (D : List Wd) (st : List Go) (μ : List Int) : Prop where
  len : μ.length = m + D.length
  nn : ∀ k, 0 ≤ μ.getD k 0 ∧ μ.getD k 0 ≤ B
  dk : ∀ (k : Nat) (d : Wd), D[k]? = some d → 0 ≤ d.s ∧ 0 ≤ d.t ∧ μ.getD d.a 0 + d.s ≤ μ.getD (m + k) 0 ∧ μ.getD d.b 0 + d.t ≤ μ.getD (m + k) 0
  da : ∀ (k : Nat) (d : Wd), D[k]? = some d → d.a < m + k ∧ d.b < m + k
  pt : ∀ (k : Nat) (p : Go), st[k]? = some p → p.th < m + D.length ∧ SgOk p ∧ 0 ≤ p.sh ∧ (p.sg ≠ 0 → μ.getD p.th 0 + p.sh ≤ B - κ.getD k 0)
theorem getD_snoc_lt {μ : List Int} {v : Int} {k : Nat} (h : k < μ.length) : (μ ++ [v]).getD k 0 = μ.getD k 0 := by
  rw [List.getD_eq_getElem?_getD, List.getD_eq_getElem?_getD, List.getElem?_append_left h]
theorem getD_snoc_eq {μ : List Int} {v : Int} {k : Nat} (h : k = μ.length) : (μ ++ [v]).getD k 0 = v := by
  rw [List.getD_eq_getElem?_getD, List.getElem?_append_right (by omega), h, Nat.sub_self]
  rfl
theorem mov_sg {p : Go} {s g : Int} (h : SgOk p) (hg : g = 1 ∨ g = -1) : SgOk (movG p s g) := by
  rcases h.cases with ⟨z, z0⟩ | z
  · unfold movG; rw [if_pos (by rw [z, Int.zero_mul])]; exact .inl rfl
  · unfold movG
    rw [if_neg (by rcases z with z | z <;> rcases hg with y | y <;> rw [z, y] <;> decide)]
    refine .inr ?_
    show p.sg * g = 1 ∨ p.sg * g = -1
    rcases z with z | z <;> rcases hg with y | y <;> rw [z, y] <;> decide
theorem mov_nz {p : Go} {s g : Int} (hg : g = 1 ∨ g = -1) : (movG p s g).sg ≠ 0 ↔ p.sg ≠ 0 := by
  unfold movG
  by_cases z : p.sg * g = 0
  · rw [if_pos z]
    refine ⟨fun h => absurd rfl h, fun h => ?_⟩
    rcases hg with y | y <;> rw [y] at z <;> omega
  · rw [if_neg z]
    refine ⟨fun _ y => z (by rw [y, Int.zero_mul]), fun _ => z⟩
theorem trp_step {m : Nat} {κ : List Int} {B : Int} {D : List Wd} {st : List Go} {μ : List Int} {r : Ar} (h : TrP m κ B D st μ) (hk : ∀ k, 0 ≤ κ.getD k 0) (hm : 0 < m) (h1 : r.st < st.length) (h2 : r.go < st.length) (h3 : 0 ≤ r.sh) (h4 : r.sg = 1 ∨ r.sg = -1) (h5 : κ.getD r.st 0 + r.sh ≤ κ.getD r.go 0) :
    ∃ μ', TrP m κ B (turnT m (D, st) r).1 (turnT m (D, st) r).2 μ' := by
  have ea := List.getElem?_eq_getElem h1
  have eb := List.getElem?_eq_getElem h2
  obtain ⟨a1, a2, a3, a4⟩ := h.pt _ _ ea
  obtain ⟨b1, b2, b3, b4⟩ := h.pt _ _ eb
  have ga : st.getD r.st g0 = st[r.st] := getD_of ea
  have gb : st.getD r.go g0 = st[r.go] := getD_of eb
  have q1 : (movG st[r.go] r.sh r.sg).th < m + D.length := by
    unfold movG
    split
    · show 0 < _; omega
    · exact b1
  have q2 := mov_sg (s := r.sh) b2 h4
  have q3 : 0 ≤ (movG st[r.go] r.sh r.sg).sh := mov_up b3 h3
  have q4 : (movG st[r.go] r.sh r.sg).sg ≠ 0 → μ.getD (movG st[r.go] r.sh r.sg).th 0 + (movG st[r.go] r.sh r.sg).sh ≤ B - κ.getD r.st 0 := fun nz => by
    have := b4 ((mov_nz h4).mp nz)
    unfold movG at nz ⊢
    split
    · rename_i z; rw [if_pos z] at nz; exact absurd rfl nz
    · show μ.getD st[r.go].th 0 + (st[r.go].sh + r.sh) ≤ _
      omega
  unfold turnT
  dsimp only
  rw [ga, gb]
  generalize st[r.st] = p at a1 a2 a3 a4
  generalize movG st[r.go] r.sh r.sg = q at q1 q2 q3 q4
  clear ga gb ea eb b1 b2 b3 b4
  have mem : ∀ (x : Go) (k : Nat) (y : Go), (st.set r.st x)[k]? = some y → (k = r.st ∧ y = x) ∨ st[k]? = some y := fun x k y hk => by
    by_cases z : r.st = k
    · subst z
      rw [List.getElem?_set_self h1] at hk
      exact .inl ⟨rfl, (Option.some.inj hk).symm⟩
    · rw [List.getElem?_set_ne z] at hk
      exact .inr hk
  have keep : ∀ x : Go, x.th < m + D.length → SgOk x → 0 ≤ x.sh → (x.sg ≠ 0 → μ.getD x.th 0 + x.sh ≤ B - κ.getD r.st 0) → ∃ μ', TrP m κ B D (st.set r.st x) μ' := fun x c1 c2 c3 c4 => by
    refine ⟨μ, h.len, h.nn, h.dk, h.da, fun k y hk' => ?_⟩
    rcases mem x k y hk' with ⟨z1, z⟩ | z
    · rw [z, z1]; exact ⟨c1, c2, c3, c4⟩
    · exact h.pt k y z
  rcases a2.cases with ⟨z, z0⟩ | zp
  · unfold addG addP
    rw [if_pos z, if_pos z]
    exact keep q q1 q2 q3 q4
  have np : p.sg ≠ 0 := by omega
  rcases q2.cases with ⟨z, z0⟩ | zq
  · unfold addG addP
    rw [if_neg np, if_neg np, if_pos z, if_pos z]
    exact keep p a1 a2 a3 a4
  have nq : q.sg ≠ 0 := by omega
  unfold addG addP
  rw [if_neg np, if_neg np, if_neg nq, if_neg nq]
  have sgn : signG p q = 1 ∨ signG p q = -1 := by unfold signG; split <;> omega
  have ap := a4 np
  have aq := q4 nq
  have n1 := h.nn p.th
  have ks := hk r.st
  have lm := h.len
  refine ⟨μ ++ [B - κ.getD r.st 0], by rw [List.length_append, List.length_append, lm]; rfl, fun k => ?_, fun k d hd => ?_, fun k d hd => ?_, fun k y hy => ?_⟩
  · by_cases z : k < μ.length
    · rw [getD_snoc_lt z]; exact h.nn k
    · by_cases z1 : k = μ.length
      · rw [getD_snoc_eq z1]; omega
      · rw [List.getD_eq_getElem?_getD, List.getElem?_eq_none (by rw [List.length_append]; simp; omega)]
        show 0 ≤ (0 : Int) ∧ (0 : Int) ≤ B
        omega
  · rcases get_snoc hd with ⟨kl, z⟩ | ⟨kl, rfl⟩
    · obtain ⟨c1, c2⟩ := h.da k d z
      rw [getD_snoc_lt (by omega), getD_snoc_lt (by omega), getD_snoc_lt (by omega)]
      exact h.dk k d z
    · rw [getD_snoc_eq (k := m + k) (by omega)]
      unfold deedG
      split
      · show 0 ≤ p.sh ∧ 0 ≤ q.sh ∧ (μ ++ [_]).getD p.th 0 + p.sh ≤ _ ∧ (μ ++ [_]).getD q.th 0 + q.sh ≤ _
        rw [getD_snoc_lt (by omega), getD_snoc_lt (by omega)]
        exact ⟨a3, q3, ap, aq⟩
      · split
        · show 0 ≤ p.sh ∧ 0 ≤ q.sh ∧ (μ ++ [_]).getD p.th 0 + p.sh ≤ _ ∧ (μ ++ [_]).getD q.th 0 + q.sh ≤ _
          rw [getD_snoc_lt (by omega), getD_snoc_lt (by omega)]
          exact ⟨a3, q3, ap, aq⟩
        · show 0 ≤ q.sh ∧ 0 ≤ p.sh ∧ (μ ++ [_]).getD q.th 0 + q.sh ≤ _ ∧ (μ ++ [_]).getD p.th 0 + p.sh ≤ _
          rw [getD_snoc_lt (by omega), getD_snoc_lt (by omega)]
          exact ⟨q3, a3, aq, ap⟩
  · rcases get_snoc hd with ⟨kl, z⟩ | ⟨kl, rfl⟩
    · exact h.da k d z
    · rw [kl]
      unfold deedG
      split
      · exact ⟨a1, q1⟩
      · split
        · exact ⟨a1, q1⟩
        · exact ⟨q1, a1⟩
  · rcases mem _ k y hy with ⟨z1, z⟩ | z
    · rw [z, z1]
      refine ⟨by show m + D.length < _; rw [List.length_append]; simp, .inr sgn, Int.le_refl 0, fun _ => ?_⟩
      show (μ ++ [_]).getD (m + D.length) 0 + 0 ≤ _
      rw [getD_snoc_eq (by omega)]
      omega
    · obtain ⟨c1, c2, c3, c4⟩ := h.pt k y z
      refine ⟨by rw [List.length_append]; simp; omega, c2, c3, fun nz => ?_⟩
      rw [getD_snoc_lt (by omega)]
      exact c4 nz
theorem turn_pot {m : Nat} {κ : List Int} {B : Int} (hk : ∀ k, 0 ≤ κ.getD k 0) (hm : 0 < m) (as : List Ar) : ∀ (D : List Wd) (st : List Go) (μ : List Int), (∀ r ∈ as, r.st < st.length ∧ r.go < st.length ∧ 0 ≤ r.sh ∧ (r.sg = 1 ∨ r.sg = -1) ∧ κ.getD r.st 0 + r.sh ≤ κ.getD r.go 0) → TrP m κ B D st μ →
    ∃ μ', TrP m κ B (turnF m (D, st) as).1 (turnF m (D, st) as).2 μ' := by
  refine snoc_ind (p := fun as => ∀ (D : List Wd) (st : List Go) (μ : List Int), (∀ r ∈ as, r.st < st.length ∧ r.go < st.length ∧ 0 ≤ r.sh ∧ (r.sg = 1 ∨ r.sg = -1) ∧ κ.getD r.st 0 + r.sh ≤ κ.getD r.go 0) → TrP m κ B D st μ →
    ∃ μ', TrP m κ B (turnF m (D, st) as).1 (turnF m (D, st) as).2 μ') (fun D st μ _ h => ⟨μ, h⟩) (fun e r ih D st μ hr h => ?_) as
  obtain ⟨h1, h2, h3, h4, h5⟩ := hr r (List.mem_append_right _ (List.mem_singleton.mpr rfl))
  obtain ⟨μ', s1⟩ := trp_step h hk hm h1 h2 h3 h4 h5
  rw [turnF_snoc]
  refine ih _ _ _ (fun x hx => ?_) s1
  have := hr x (List.mem_append_left _ hx)
  rw [List.length_set]
  exact this
def bT (bs : List Bool) (r : Ar) : List Bool := bs.set r.st (bs.getD r.st false || bs.getD r.go false)
def bF (bs : List Bool) (as : List Ar) : List Bool := as.reverse.foldl bT bs
theorem bF_snoc (bs : List Bool) (as : List Ar) (a : Ar) : bF bs (as ++ [a]) = bF (bT bs a) as := by unfold bF; rw [List.reverse_append]; rfl
theorem bF_app (bs : List Bool) (as bs' : List Ar) : bF bs (as ++ bs') = bF (bF bs bs') as := by unfold bF; rw [List.reverse_append, List.foldl_append]
theorem bT_len (bs : List Bool) (a : Ar) : (bT bs a).length = bs.length := by unfold bT; rw [List.length_set]
theorem bF_len (as : List Ar) : ∀ bs : List Bool, (bF bs as).length = bs.length := by
  refine snoc_ind (p := fun as => ∀ bs : List Bool, (bF bs as).length = bs.length) (fun _ => rfl) (fun e a ih bs => ?_) as
  rw [bF_snoc, ih, bT_len]
def nzB (p : Go) : Bool := decide (p.sg ≠ 0)
def cnt (bs : List Bool) : Nat := bs.count true
def eff : List Bool → List Ar → Nat
  | _, [] => 0
  | bs, r :: as => (if bs.getD r.go false = true then 1 else 0) + eff (bT bs r) as
theorem cnt_set : ∀ (bs : List Bool) (i : Nat) (b : Bool), i < bs.length → cnt (bs.set i (bs.getD i false || b)) = cnt bs + (if bs.getD i false = false ∧ b = true then 1 else 0)
  | [], i, b, h => by simp at h
  | c :: bs, 0, b, h => by
    unfold cnt
    cases c <;> cases b <;> simp
  | c :: bs, i + 1, b, h => by
    have ih := cnt_set bs i b (by simpa using h)
    unfold cnt at ih ⊢
    show ((c :: bs.set i (bs.getD i false || b)).count true) = (c :: bs).count true + (if bs.getD i false = false ∧ b = true then 1 else 0)
    rw [List.count_cons, List.count_cons, ih]
    omega
theorem getD_set_neB {zs : List Bool} {i j : Nat} {v : Bool} (h : i ≠ j) : (zs.set i v).getD j false = zs.getD j false := by
  rw [List.getD_eq_getElem?_getD, List.getD_eq_getElem?_getD, List.getElem?_set_ne h]
theorem nzB_add {m : Nat} {D : List Wd} {p q : Go} (hp : SgOk p) (hq : SgOk q) : nzB (addP m D p q) = (nzB p || nzB q) ∧ (addG m D p q).length = D.length + (if nzB p = true ∧ nzB q = true then 1 else 0) ∧ SgOk (addP m D p q) := by
  unfold addP addG nzB
  rcases hp.cases with ⟨z, _⟩ | zp
  · rw [if_pos z, if_pos z, z]
    simp
    exact hq
  have np : p.sg ≠ 0 := by omega
  rw [if_neg np, if_neg np]
  rcases hq.cases with ⟨z, _⟩ | zq
  · rw [if_pos z, if_pos z, z]
    simp [np]
    exact hp
  have nq : q.sg ≠ 0 := by omega
  rw [if_neg nq, if_neg nq]
  have sgn : signG p q = 1 ∨ signG p q = -1 := by unfold signG; split <;> omega
  have ns : signG p q ≠ 0 := by omega
  simp [np, nq, ns]
  exact .inr sgn
theorem turn_cnt {m : Nat} (as : List Ar) : ∀ (D : List Wd) (st : List Go), (∀ r ∈ as, r.st < st.length ∧ r.go < st.length ∧ (r.sg = 1 ∨ r.sg = -1)) → (∀ p ∈ st, SgOk p) →
    (turnF m (D, st) as).2.map nzB = bF (st.map nzB) as ∧ (turnF m (D, st) as).1.length + cnt (bF (st.map nzB) as) = D.length + cnt (st.map nzB) + eff (st.map nzB) as.reverse := by
  refine snoc_ind (p := fun as => ∀ (D : List Wd) (st : List Go), (∀ r ∈ as, r.st < st.length ∧ r.go < st.length ∧ (r.sg = 1 ∨ r.sg = -1)) → (∀ p ∈ st, SgOk p) →
    (turnF m (D, st) as).2.map nzB = bF (st.map nzB) as ∧ (turnF m (D, st) as).1.length + cnt (bF (st.map nzB) as) = D.length + cnt (st.map nzB) + eff (st.map nzB) as.reverse) (fun D st _ _ => ⟨rfl, rfl⟩) (fun e r ih D st hr hs => ?_) as
  obtain ⟨h1, h2, h4⟩ := hr r (List.mem_append_right _ (List.mem_singleton.mpr rfl))
  have ea := List.getElem?_eq_getElem h1
  have eb := List.getElem?_eq_getElem h2
  have sa := hs _ (List.mem_of_getElem? ea)
  have sb := hs _ (List.mem_of_getElem? eb)
  have ga : st.getD r.st g0 = st[r.st] := getD_of ea
  have gb : st.getD r.go g0 = st[r.go] := getD_of eb
  have va : (st.map nzB).getD r.st false = nzB st[r.st] := getD_of (by rw [List.getElem?_map, ea]; rfl)
  have vb : (st.map nzB).getD r.go false = nzB st[r.go] := getD_of (by rw [List.getElem?_map, eb]; rfl)
  have mq : nzB (movG st[r.go] r.sh r.sg) = nzB st[r.go] := by
    unfold nzB
    exact decide_eq_decide.mpr (mov_nz h4)
  obtain ⟨n1, n2, n3⟩ := nzB_add (m := m) (D := D) sa (mov_sg (s := r.sh) sb h4)
  rw [mq] at n1 n2
  have st1 : (turnT m (D, st) r).2.map nzB = bT (st.map nzB) r := by
    unfold turnT bT
    dsimp only
    rw [ga, gb, va, vb, List.map_set, n1]
  have st2 : (turnT m (D, st) r).1.length = D.length + (if nzB st[r.st] = true ∧ nzB st[r.go] = true then 1 else 0) := by
    unfold turnT
    dsimp only
    rw [ga, gb, n2]
  obtain ⟨i1, i2⟩ := ih (turnT m (D, st) r).1 (turnT m (D, st) r).2 (fun x hx => by
    have := hr x (List.mem_append_left _ hx)
    unfold turnT
    dsimp only
    rw [List.length_set]
    exact this) (fun p hp => by
    unfold turnT at hp
    dsimp only at hp
    rw [ga, gb] at hp
    rcases List.mem_or_eq_of_mem_set hp with z | z
    · exact hs p z
    · rw [z]; exact n3)
  rw [turnF_snoc, bF_snoc, ← st1]
  refine ⟨i1, ?_⟩
  have cs : cnt (bT (st.map nzB) r) = cnt (st.map nzB) + (if nzB st[r.st] = false ∧ nzB st[r.go] = true then 1 else 0) := by
    unfold bT
    rw [cnt_set _ _ _ (by rw [List.length_map]; exact h1), va, vb]
  rw [st2, st1, cs] at i2
  change (turnF m (turnT m (D, st) r) e).1.length + _ = _ at i2
  rw [show (e ++ [r]).reverse = r :: e.reverse by simp]
  show _ = _ + ((if (st.map nzB).getD r.go false = true then 1 else 0) + eff (bT (st.map nzB) r) e.reverse)
  rw [vb]
  rw [st1]
  cases x : nzB st[r.st] <;> cases y : nzB st[r.go] <;> simp [x, y] at i2 ⊢ <;> omega
theorem eff_app : ∀ (xs ys : List Ar) (bs : List Bool), eff bs (xs ++ ys) = eff bs xs + eff (xs.foldl bT bs) ys
  | [], ys, bs => by simp [eff]
  | r :: xs, ys, bs => by
    show _ + eff (bT bs r) (xs ++ ys) = _
    rw [eff_app xs ys (bT bs r)]
    show _ = (_ + eff (bT bs r) xs) + eff (xs.foldl bT (bT bs r)) ys
    omega
theorem bF_ne (as : List Ar) : ∀ (bs : List Bool) (k : Nat), (∀ r ∈ as, r.st ≠ k) → (bF bs as).getD k false = bs.getD k false := by
  refine snoc_ind (p := fun as => ∀ (bs : List Bool) (k : Nat), (∀ r ∈ as, r.st ≠ k) → (bF bs as).getD k false = bs.getD k false) (fun bs k _ => rfl) (fun e r ih bs k hk => ?_) as
  rw [bF_snoc, ih _ _ (fun x hx => hk x (List.mem_append_left _ hx))]
  exact getD_set_neB (hk r (List.mem_append_right _ (List.mem_singleton.mpr rfl)))
def dcnt (ins k : Nat) (bs : List Bool) : Nat := ((List.range k).map fun j => if bs.getD (ins + j) false = true then 1 else 0).sum
theorem dcnt_succ (ins k : Nat) (bs : List Bool) : dcnt ins (k + 1) bs = dcnt ins k bs + (if bs.getD (ins + k) false = true then 1 else 0) := by
  unfold dcnt
  rw [List.range_succ, List.map_append, List.sum_append]
  simp
theorem eff_deeds {ins : Nat} (ds : List Wd) : (∀ (k : Nat) (d : Wd), ds[k]? = some d → d.a < ins + k ∧ d.b < ins + k) → ∀ bs : List Bool, eff bs (arrF ins 0 ds).reverse = 2 * dcnt ins ds.length (bF bs (arrF ins 0 ds)) := by
  refine snoc_ind (p := fun ds => (∀ (k : Nat) (d : Wd), ds[k]? = some d → d.a < ins + k ∧ d.b < ins + k) → ∀ bs : List Bool, eff bs (arrF ins 0 ds).reverse = 2 * dcnt ins ds.length (bF bs (arrF ins 0 ds))) (fun _ bs => rfl) (fun e d ih hE bs => ?_) ds
  obtain ⟨da, db⟩ := hE e.length d (by rw [List.getElem?_append_right (Nat.le_refl _), Nat.sub_self]; rfl)
  have hE' : ∀ (k : Nat) (d : Wd), e[k]? = some d → d.a < ins + k ∧ d.b < ins + k := fun k x h => hE k x (by rw [List.getElem?_append_left (List.getElem?_eq_some_iff.mp h).1]; exact h)
  have ea : arrF ins 0 (e ++ [d]) = (arrF ins 0 e ++ [⟨d.a, ins + e.length, d.s, 1⟩]) ++ [⟨d.b, ins + e.length, d.t, sgW d.w⟩] := by
    rw [arrF_app, Nat.zero_add]; simp [arrF]
  rw [ea, bF_snoc, bF_snoc, List.reverse_append, List.reverse_append, List.reverse_singleton, List.reverse_singleton]
  have ih' := ih hE' (bT (bT bs ⟨d.b, ins + e.length, d.t, sgW d.w⟩) ⟨d.a, ins + e.length, d.s, 1⟩)
  have stay : ∀ r ∈ arrF ins 0 e, r.st ≠ ins + e.length := fun r hr => by
    obtain ⟨t, ht⟩ := List.getElem?_of_mem hr
    obtain ⟨x, h1, _, h3⟩ := arr_at ht
    have kl := (List.getElem?_eq_some_iff.mp h1).1
    obtain ⟨c1, c2⟩ := hE' _ x h1
    rcases h3 with ⟨_, rfl⟩ | ⟨_, rfl⟩
    · show x.a ≠ _; omega
    · show x.b ≠ _; omega
  have f1 : (bT bs ⟨d.b, ins + e.length, d.t, sgW d.w⟩).getD (ins + e.length) false = bs.getD (ins + e.length) false := getD_set_neB (by show d.b ≠ _; omega)
  have f2 : (bT (bT bs ⟨d.b, ins + e.length, d.t, sgW d.w⟩) ⟨d.a, ins + e.length, d.s, 1⟩).getD (ins + e.length) false = bs.getD (ins + e.length) false := by
    rw [← f1]
    exact getD_set_neB (by show d.a ≠ _; omega)
  show (if bs.getD (ins + e.length) false = true then 1 else 0) + ((if (bT bs ⟨d.b, ins + e.length, d.t, sgW d.w⟩).getD (ins + e.length) false = true then 1 else 0) + eff (bT (bT bs ⟨d.b, ins + e.length, d.t, sgW d.w⟩) ⟨d.a, ins + e.length, d.s, 1⟩) (arrF ins 0 e).reverse) = _
  rw [ih', f1, List.length_append, List.length_singleton, dcnt_succ, bF_ne _ _ _ stay, f2]
  omega
theorem eff_outs {n : Nat} (as : List Ar) : ∀ bs : List Bool, (∀ r ∈ as, r.st < n ∧ n ≤ r.go ∧ bs.getD r.go false = true) → eff bs as = as.length := by
  induction as with
  | nil => intro bs _; rfl
  | cons r as ih =>
    intro bs h
    obtain ⟨h1, h2, h3⟩ := h r (List.mem_cons_self ..)
    show (if bs.getD r.go false = true then 1 else 0) + eff (bT bs r) as = as.length + 1
    rw [if_pos h3, ih (bT bs r) (fun x hx => ?_)]
    · omega
    · obtain ⟨c1, c2, c3⟩ := h x (List.mem_cons_of_mem _ hx)
      refine ⟨c1, c2, ?_⟩
      rw [← c3]
      exact getD_set_neB (by omega)
end L2
set_option Elab.async false
set_option linter.all false
set_option maxRecDepth 100000
set_option maxHeartbeats 1000000
namespace L2
open PySem PySem.Spec PyProof.Rows
structure TW (ins : Nat) (ds : List Wd) (gs : List Go) (μ : List Int) (B : Int) : Prop where
  ok : WebOk ins ds gs
  sg : ∀ g ∈ gs, SgOk g
  pot : Pot ins ds gs μ B
  b : B ≤ 3900
theorem mvI_bd {s n : Int} {b c : Nat} (h0 : 0 ≤ s) (h1 : s.toNat ≤ c) (h : n.natAbs ≤ 2 ^ b) : (mvI s n).natAbs ≤ 2 ^ (b + c) := by
  rw [mvI_up h0, Int.natAbs_mul, Int.natAbs_pow, Nat.pow_add]
  exact Nat.mul_le_mul h (Nat.pow_le_pow_right (by decide) h1)
section
variable {ins : Nat} {ds : List Wd} {gs : List Go} {μ : List Int} {B : Int}
end
def st0 (n m : Nat) : List Go := List.replicate n g0 ++ (List.range m).map fun p => ⟨p, 0, 1⟩
def trn (ins : Nat) (ds : List Wd) (gs : List Go) : List Wd × List Go := turnF gs.length ([], st0 (ins + ds.length) gs.length) (allA ins ds gs)
def trnD (ins : Nat) (ds : List Wd) (gs : List Go) : List Wd := (trn ins ds gs).1
def trnO (ins : Nat) (ds : List Wd) (gs : List Go) : List Go := (trn ins ds gs).2.take ins
theorem st0_len (n m : Nat) : (st0 n m).length = n + m := by unfold st0; rw [List.length_append, List.length_replicate, List.length_map, List.length_range]
theorem st0_at {n m k : Nat} {p : Go} (h : (st0 n m)[k]? = some p) : (k < n ∧ p = g0) ∨ (n ≤ k ∧ k < n + m ∧ p = ⟨k - n, 0, 1⟩) := by
  unfold st0 at h
  by_cases z : k < n
  · rw [List.getElem?_append_left (by rw [List.length_replicate]; exact z), List.getElem?_replicate, if_pos z] at h
    exact .inl ⟨z, (Option.some.inj h).symm⟩
  · rw [List.getElem?_append_right (by rw [List.length_replicate]; omega), List.length_replicate, List.getElem?_map] at h
    have kl : k - n < m := by
      obtain ⟨x, hx, _⟩ := Option.map_eq_some_iff.mp h
      have := (List.getElem?_eq_some_iff.mp hx).1
      rwa [List.length_range] at this
    rw [List.getElem?_range kl] at h
    exact .inr ⟨by omega, by omega, (Option.some.inj h).symm⟩
section
variable {ins : Nat} {ds : List Wd} {gs : List Go} {μ : List Int} {B : Int}
def kap (μ : List Int) (m : Nat) (B : Int) : List Int := μ ++ List.replicate m B
theorem kap_lt {m k : Nat} (h : k < μ.length) : (kap μ m B).getD k 0 = μ.getD k 0 := by
  unfold kap
  rw [List.getD_eq_getElem?_getD, List.getD_eq_getElem?_getD, List.getElem?_append_left h]
theorem kap_ge {m k : Nat} (h : μ.length ≤ k) (h2 : k < μ.length + m) : (kap μ m B).getD k 0 = B := by
  unfold kap
  rw [List.getD_eq_getElem?_getD, List.getElem?_append_right h, List.getElem?_replicate, if_pos (by omega)]
  rfl
theorem TW.arr (T : TW ins ds gs μ B) : ∀ r ∈ allA ins ds gs, r.st < ins + ds.length ∧ r.go < ins + ds.length + gs.length ∧ 0 ≤ r.sh ∧ (r.sg = 1 ∨ r.sg = -1) ∧ (kap μ gs.length B).getD r.st 0 + r.sh ≤ (kap μ gs.length B).getD r.go 0 := fun r hr => by
  have ml := T.pot.len
  rcases List.mem_append.mp hr with z | z
  · obtain ⟨t, ht⟩ := List.getElem?_of_mem z
    obtain ⟨d, h1, h2, h3⟩ := arr_at ht
    have kl := (List.getElem?_eq_some_iff.mp h1).1
    obtain ⟨c1, c2, c3⟩ := T.ok.dk _ d h1
    obtain ⟨p1, p2, p3, p4⟩ := T.pot.dk _ d h1
    have sgd : sgW d.w = 1 ∨ sgW d.w = -1 := by rcases c3 with z | z <;> rw [z] <;> decide
    rw [Nat.add_zero] at h2
    rw [h2, kap_lt (k := ins + t / 2) (by omega)]
    rcases h3 with ⟨_, e⟩ | ⟨_, e⟩
    · rw [Nat.add_zero] at e
      rw [e]
      show d.a < _ ∧ _ ∧ 0 ≤ d.s ∧ ((1 : Int) = 1 ∨ (1 : Int) = -1) ∧ (kap μ gs.length B).getD d.a 0 + d.s ≤ _
      rw [kap_lt (k := d.a) (by omega)]
      exact ⟨by omega, by omega, p1, .inl rfl, p3⟩
    · rw [Nat.add_zero] at e
      rw [e]
      show d.b < _ ∧ _ ∧ 0 ≤ d.t ∧ (sgW d.w = 1 ∨ sgW d.w = -1) ∧ (kap μ gs.length B).getD d.b 0 + d.t ≤ _
      rw [kap_lt (k := d.b) (by omega)]
      exact ⟨by omega, by omega, p2, sgd, p4⟩
  · obtain ⟨k, g, h1, h2, rfl⟩ := oarr_mem z
    have kl := (List.getElem?_eq_some_iff.mp h1).1
    have hg := List.mem_of_getElem? h1
    have gk := T.ok.gk g hg
    obtain ⟨q1, q2⟩ := T.pot.gk g hg
    refine ⟨gk, by show ins + ds.length + (0 + k) < _; omega, q1, ?_, ?_⟩
    · rcases (T.sg g hg).cases with y | y
      · exact absurd y.1 h2
      · exact y
    · show (kap μ gs.length B).getD g.th 0 + g.sh ≤ (kap μ gs.length B).getD (ins + ds.length + (0 + k)) 0
      rw [kap_lt (by omega), kap_ge (by omega) (by omega)]
      exact q2 h2
theorem TW.val (T : TW ins ds gs μ B) (hm : 0 < gs.length) {ys : List Int} (hy : ys.length = gs.length) : TrV ys (trnD ins ds gs) (trn ins ds gs).2 ∧ (trn ins ds gs).2.map (outV (valsW ys (trnD ins ds gs))) = zF (zs0 (ins + ds.length) ys) (allA ins ds gs) := by
  have A := T.arr
  have B0 : TrV ys [] (st0 (ins + ds.length) gs.length) := by
    refine ⟨fun k d h => by simp at h, fun k p hp => ?_⟩
    rcases st0_at hp with ⟨_, rfl⟩ | ⟨_, _, rfl⟩
    · exact ⟨⟨by show 0 < _; omega, .inl rfl, Ex.up (Int.le_refl 0)⟩, Int.le_refl 0⟩
    · exact ⟨⟨by show k - (ins + ds.length) < ys.length + 0; omega, .inr (.inl rfl), Ex.up (Int.le_refl 0)⟩, Int.le_refl 0⟩
  have e0 : (st0 (ins + ds.length) gs.length).map (outV (valsW ys [])) = zs0 (ins + ds.length) ys := by
    unfold st0 zs0
    rw [List.map_append, List.map_replicate, List.map_map]
    congr 1
    · rw [show outV (valsW ys []) g0 = 0 by unfold outV g0; rw [Int.zero_mul]]
    · refine List.ext_getElem? fun j => ?_
      rw [List.getElem?_map]
      by_cases z : j < gs.length
      · rw [List.getElem?_range z]
        show some (1 * mvI 0 (ys.getD j 0)) = _
        have e := List.getElem?_eq_getElem (l := ys) (i := j) (by omega)
        rw [mvI_zero, Int.one_mul, e, getD_of e]
      · rw [List.getElem?_eq_none (by rw [List.length_range]; omega), List.getElem?_eq_none (by omega)]
        rfl
  have R := turn_val (by omega) (allA ins ds gs) [] (st0 (ins + ds.length) gs.length) (fun r hr => by
    obtain ⟨h1, h2, h3, h4, _⟩ := A r hr
    rw [st0_len]
    exact ⟨by omega, by omega, h3, h4⟩) B0
  rw [e0, hy] at R
  exact R
theorem TW.pots (T : TW ins ds gs μ B) (hm : 0 < gs.length) : ∃ μ', TrP gs.length (kap μ gs.length B) B (trnD ins ds gs) (trn ins ds gs).2 μ' := by
  have A := T.arr
  have ml := T.pot.len
  have nn := T.pot.nn
  have bn : 0 ≤ B := by have := nn 0; omega
  have kn : ∀ k, 0 ≤ (kap μ gs.length B).getD k 0 := fun k => by
    by_cases z : k < μ.length
    · rw [kap_lt z]; exact (nn k).1
    · by_cases z1 : k < μ.length + gs.length
      · rw [kap_ge (by omega) z1]; exact bn
      · unfold kap
        rw [List.getD_eq_getElem?_getD, List.getElem?_eq_none (by rw [List.length_append, List.length_replicate]; omega)]
        exact Int.le_refl 0
  have zg : ∀ k, (List.replicate gs.length (0 : Int)).getD k 0 = 0 := fun k => by
    rw [List.getD_eq_getElem?_getD, List.getElem?_replicate]
    split <;> rfl
  refine turn_pot kn hm (allA ins ds gs) [] (st0 (ins + ds.length) gs.length) (List.replicate gs.length 0) (fun r hr => by
    obtain ⟨h1, h2, h3, h4, h5⟩ := A r hr
    rw [st0_len]
    exact ⟨by omega, by omega, h3, h4, h5⟩) ⟨by rw [List.length_replicate]; rfl, fun k => by rw [zg]; exact ⟨Int.le_refl 0, bn⟩, fun k d h => by simp at h, fun k d h => by simp at h, fun k p hp => ?_⟩
  rcases st0_at hp with ⟨_, rfl⟩ | ⟨h1, h2, rfl⟩
  · exact ⟨by show 0 < _; omega, .inl rfl, Int.le_refl 0, fun z => absurd rfl z⟩
  · refine ⟨by show k - (ins + ds.length) < gs.length + 0; omega, .inr (.inl rfl), Int.le_refl 0, fun _ => ?_⟩
    rw [zg, kap_ge (by omega) (by omega)]
    show (0 : Int) + 0 ≤ B - B
    omega
def bs0 (n m : Nat) : List Bool := List.replicate n false ++ List.replicate m true
def metB (ins : Nat) (ds : List Wd) (gs : List Go) : List Bool := bF (bs0 (ins + ds.length) gs.length) (allA ins ds gs)
def mostV (ins : Nat) (ds : List Wd) (gs : List Go) : Int := (dcnt ins ds.length (metB ins ds gs) : Int) + (oarr (ins + ds.length) 0 gs).length - (dcnt 0 ins (metB ins ds gs) : Nat)
theorem dcnt_add (a b c : Nat) (bs : List Bool) : dcnt a (b + c) bs = dcnt a b bs + dcnt (a + b) c bs := by
  induction c with
  | zero => rfl
  | succ c ih => rw [← Nat.add_assoc, dcnt_succ, ih, dcnt_succ, Nat.add_assoc a b c]; omega
theorem dcnt_le (a b : Nat) (bs : List Bool) : dcnt a b bs ≤ b := by
  induction b with
  | zero => exact Nat.le_refl _
  | succ b ih => rw [dcnt_succ]; split <;> omega
theorem cnt_all : ∀ bs : List Bool, cnt bs = dcnt 0 bs.length bs := by
  refine snoc_ind (p := fun bs => cnt bs = dcnt 0 bs.length bs) rfl (fun bs b ih => ?_)
  rw [List.length_append, List.length_singleton, dcnt_succ]
  have e : dcnt 0 bs.length (bs ++ [b]) = dcnt 0 bs.length bs := by
    unfold dcnt
    congr 1
    refine List.map_congr_left fun j hj => ?_
    have := List.mem_range.mp hj
    rw [List.getD_eq_getElem?_getD, List.getD_eq_getElem?_getD, List.getElem?_append_left (by omega)]
  rw [e, ← ih]
  unfold cnt
  rw [List.count_append, List.getD_eq_getElem?_getD, List.getElem?_append_right (by omega)]
  simp
  cases b <;> rfl
theorem bs0_lt {n m k : Nat} (h : k < n) : (bs0 n m).getD k false = false := by
  unfold bs0
  rw [List.getD_eq_getElem?_getD, List.getElem?_append_left (by rw [List.length_replicate]; exact h), List.getElem?_replicate, if_pos h]
  rfl
theorem bs0_ge {n m k : Nat} (h : n ≤ k) (h2 : k < n + m) : (bs0 n m).getD k false = true := by
  unfold bs0
  rw [List.getD_eq_getElem?_getD, List.getElem?_append_right (by rw [List.length_replicate]; exact h), List.length_replicate, List.getElem?_replicate, if_pos (by omega)]
  rfl
theorem bs0_len (n m : Nat) : (bs0 n m).length = n + m := by unfold bs0; simp
theorem TW.many (T : TW ins ds gs μ B) : ((trnD ins ds gs).length : Int) = mostV ins ds gs ∧ (trnD ins ds gs).length ≤ gs.length + ds.length := by
  have A := T.arr
  have e0 : (st0 (ins + ds.length) gs.length).map nzB = bs0 (ins + ds.length) gs.length := by
    unfold st0 bs0
    rw [List.map_append, List.map_replicate, List.map_map]
    congr 1
    refine List.ext_getElem? fun j => ?_
    rw [List.getElem?_map, List.getElem?_replicate]
    by_cases z : j < gs.length
    · rw [List.getElem?_range z, if_pos z]; rfl
    · rw [List.getElem?_eq_none (by rw [List.length_range]; omega), if_neg z]; rfl
  obtain ⟨_, c2⟩ := turn_cnt (m := gs.length) (allA ins ds gs) [] (st0 (ins + ds.length) gs.length) (fun r hr => by
    obtain ⟨h1, h2, _, h4, _⟩ := A r hr
    rw [st0_len]
    exact ⟨by omega, by omega, h4⟩) (fun p hp => by
    obtain ⟨k, hk⟩ := List.getElem?_of_mem hp
    rcases st0_at hk with ⟨_, rfl⟩ | ⟨_, _, rfl⟩
    · exact .inl rfl
    · exact .inr (.inl rfl))
  rw [e0] at c2
  change (trnD ins ds gs).length + cnt (metB ins ds gs) = _ at c2
  have ml : (metB ins ds gs).length = ins + ds.length + gs.length := by unfold metB; rw [bF_len, bs0_len]
  have hi : ∀ k, ins + ds.length ≤ k → k < ins + ds.length + gs.length → (metB ins ds gs).getD k false = true := fun k h1 h2 => by
    unfold metB
    rw [bF_ne _ _ _ (fun r hr => by have := (A r hr).1; omega)]
    exact bs0_ge h1 h2
  have full : ∀ (bs : List Bool) (a b : Nat), (∀ k, a ≤ k → k < a + b → bs.getD k false = true) → dcnt a b bs = b := fun bs a b => by
    induction b with
    | zero => intro _; rfl
    | succ b ih =>
      intro h
      rw [dcnt_succ, ih (fun k h1 h2 => h k h1 (by omega)), if_pos (h (a + b) (by omega) (by omega))]
  have empty : ∀ (bs : List Bool) (a b : Nat), (∀ k, a ≤ k → k < a + b → bs.getD k false = false) → dcnt a b bs = 0 := fun bs a b => by
    induction b with
    | zero => intro _; rfl
    | succ b ih =>
      intro h
      rw [dcnt_succ, ih (fun k h1 h2 => h k h1 (by omega)), if_neg (by rw [h (a + b) (by omega) (by omega)]; decide)]
  have c3 : cnt (bs0 (ins + ds.length) gs.length) = gs.length := by
    rw [cnt_all, bs0_len, dcnt_add, empty _ _ _ (fun k _ h2 => bs0_lt (by omega)), full _ _ _ (fun k h1 h2 => bs0_ge (by omega) (by omega))]
    omega
  have c4 : cnt (metB ins ds gs) = dcnt 0 ins (metB ins ds gs) + dcnt ins ds.length (metB ins ds gs) + gs.length := by
    rw [cnt_all, ml, dcnt_add, dcnt_add, full _ (0 + (ins + ds.length)) gs.length (fun k h1 h2 => hi k (by omega) (by omega)), Nat.zero_add]
  have dk : ∀ (k : Nat) (d : Wd), ds[k]? = some d → d.a < ins + k ∧ d.b < ins + k := fun k d h => ⟨(T.ok.dk k d h).1, (T.ok.dk k d h).2.1⟩
  have c5 : eff (bs0 (ins + ds.length) gs.length) (allA ins ds gs).reverse = (oarr (ins + ds.length) 0 gs).length + 2 * dcnt ins ds.length (metB ins ds gs) := by
    unfold allA
    rw [List.reverse_append, eff_app]
    have o1 : eff (bs0 (ins + ds.length) gs.length) (oarr (ins + ds.length) 0 gs).reverse = (oarr (ins + ds.length) 0 gs).length := by
      rw [eff_outs (n := ins + ds.length) _ _ (fun r hr => ?_), List.length_reverse]
      have hr' := List.mem_reverse.mp hr
      have := A r (List.mem_append_right _ hr')
      obtain ⟨k, g, h1, h2, rfl⟩ := oarr_mem hr'
      have kl := (List.getElem?_eq_some_iff.mp h1).1
      exact ⟨this.1, by show _ ≤ ins + ds.length + (0 + k); omega, bs0_ge (by show _ ≤ ins + ds.length + (0 + k); omega) this.2.1⟩
    rw [o1]
    congr 1
    have o2 := eff_deeds ds dk (bF (bs0 (ins + ds.length) gs.length) (oarr (ins + ds.length) 0 gs))
    show eff (bF (bs0 (ins + ds.length) gs.length) (oarr (ins + ds.length) 0 gs)) _ = _
    rw [o2]
    unfold metB allA
    rw [bF_app]
  rw [c3, c4, c5, List.length_nil] at c2
  unfold mostV
  have ol := oarr_len (ins + ds.length) gs 0
  have dl := dcnt_le ins ds.length (metB ins ds gs)
  refine ⟨by omega, by omega⟩
theorem TW.turn (T : TW ins ds gs μ B) (hm : 0 < gs.length) (h60 : gs.length + ds.length ≤ 60) : ∃ μ', TW gs.length (trnD ins ds gs) (trnO ins ds gs) μ' B := by
  obtain ⟨μ', P⟩ := T.pots hm
  obtain ⟨V, _⟩ := T.val hm (unitRow_len gs.length 0)
  have many := T.many.2
  have i2 := T.ok.i2
  have mem : ∀ g ∈ trnO ins ds gs, ∃ k, k < ins ∧ (trn ins ds gs).2[k]? = some g := fun g hg => by
    obtain ⟨k, hk⟩ := List.getElem?_of_mem hg
    unfold trnO at hk
    rw [List.getElem?_take] at hk
    by_cases z : k < ins
    · rw [if_pos z] at hk; exact ⟨k, z, hk⟩
    · rw [if_neg z] at hk; cases hk
  refine ⟨μ', ⟨by omega, T.ok.gl, fun k d hd => ?_, fun g hg => ?_, by omega, by unfold trnO; rw [List.length_take]; omega⟩, fun g hg => ?_, ⟨P.len, P.nn, P.dk, fun g hg => ?_⟩, T.b⟩
  · have := V.ex k d hd
    rw [unitRow_len] at this
    exact ⟨this.1, this.2.1, this.2.2.1⟩
  · obtain ⟨k, _, hk⟩ := mem g hg
    exact (P.pt k g hk).1
  · obtain ⟨k, _, hk⟩ := mem g hg
    exact (P.pt k g hk).2.1
  · obtain ⟨k, kl, hk⟩ := mem g hg
    obtain ⟨_, _, c3, c4⟩ := P.pt k g hk
    refine ⟨c3, fun nz => ?_⟩
    have := c4 nz
    rw [kap_lt (by have := T.pot.len; omega)] at this
    have := (T.pot.nn k).1
    omega
end
end L2
set_option Elab.async false
set_option linter.all false
set_option maxRecDepth 100000
set_option maxHeartbeats 1000000
namespace L2
open PySem PySem.Spec PyProof.Rows
section
variable {α : Type} {K : PySem.W.Frag} {f : α → List V} {H H' : Hp} {vs us : List V} {xs : List α} {l : Addr}
theorem HKs.set {i : Nat} {x : α} {p : Addr} (h : HKs K f H vs xs) (hi : i < vs.length) (hx : SqT K H p (f x)) : HKs K f H (vs.set i (.ref p)) (xs.set i x) := by
  have l := h.len
  refine ⟨by rw [List.length_set, List.length_set, l], fun k y hy => ?_⟩
  by_cases z : i = k
  · subst z
    rw [List.getElem?_set_self (by omega)] at hy
    cases hy
    exact ⟨p, List.getElem?_set_self hi, hx⟩
  · rw [List.getElem?_set_ne z] at hy
    rw [List.getElem?_set_ne z]
    exact h.at_ k y hy
theorem HKs.take {n : Nat} (h : HKs K f H vs xs) : HKs K f H (vs.take n) (xs.take n) := by
  refine ⟨by rw [List.length_take, List.length_take, h.len], fun k y hy => ?_⟩
  rw [List.getElem?_take] at hy ⊢
  by_cases z : k < n
  · rw [if_pos z] at hy ⊢; exact h.at_ k y hy
  · rw [if_neg z] at hy; cases hy
end
section
variable {K : PySem.W.Frag} {σ : St} {H : Hp} {Q : VK} {cs : List Nat} {te : TE}
end
end L2
set_option Elab.async false
set_option linter.all false
set_option maxRecDepth 100000
set_option maxHeartbeats 1000000
namespace L2
open PySem PySem.Spec PyProof.Rows
def DeOkU (ins j : Nat) (d : Wd) : Prop := d.a < ins + j ∧ d.b < ins + j ∧ (d.w = "sum" ∨ d.w = "less") ∧ 0 ≤ d.s ∧ d.s ≤ 40 ∧ 0 ≤ d.t ∧ d.t ≤ 40
def GOkU (n : Nat) (g : Go) : Prop := g.th < n ∧ 0 ≤ g.sh ∧ g.sh ≤ 40 ∧ SgOk g
structure DW (H : Hp) (p : Addr) (ins : Nat) (dl : Addr) (k : Nat) (us : List V) (ds : List Wd) (H' : Hp) : Prop where
  dll : H' dl = some (.lst us)
  hds : HTs wTup H' us ds
  dlen : ds.length = k
  dk : ∀ (j : Nat) (d : Wd), ds[j]? = some d → DeOkU ins j d
  chg : Chg p H H'
  ndl : H dl = none
  dp : dl ≠ p
structure GW (H : Hp) (p gl : Addr) (n j : Nat) (os : List V) (gs : List Go) (H' : Hp) : Prop where
  gll : H' gl = some (.lst os)
  hgs : HTs gTp H' os gs
  glen : gs.length = j
  gk : ∀ g ∈ gs, GOkU n g
  ngl : H gl = none
  gp : gl ≠ p
section
variable {H : Hp} {p dl gl a : Addr} {ins k n j : Nat} {us os : List V} {ds : List Wd} {gs : List Go} {H' H'' : Hp} {c : Int}
theorem DW.step (h : DW H p ins dl k us ds H') (P : LPen H' p a c) (C : Chg p H' H'') : DW H p ins dl k us ds H'' := by
  obtain ⟨xs, hp⟩ := P.lst
  exact ⟨C _ _ h.dp h.dll, h.hds.chgL hp C, h.dlen, h.dk, h.chg.trans C, h.ndl, h.dp⟩
theorem GW.step (h : GW H p gl n j os gs H') (P : LPen H' p a c) (C : Chg p H' H'') : GW H p gl n j os gs H'' := by
  obtain ⟨xs, hp⟩ := P.lst
  exact ⟨C _ _ h.gp h.gll, h.hgs.chgL hp C, h.glen, h.gk, h.ngl, h.gp⟩
theorem DW.upd {q : Addr} {ys zs : List V} (h : DW H p ins dl k us ds H') (hq : H' q = some (.lst ys)) (nq : H q = none) (qd : q ≠ dl) : DW H p ins dl k us ds (upd H' q (.lst zs)) :=
  ⟨by rw [upd_ne qd.symm]; exact h.dll, h.hds.chgL hq (Chg.upd _), h.dlen, h.dk, Chg.updN h.chg nq, h.ndl, h.dp⟩
end
end L2
set_option Elab.async false
set_option linter.all false
set_option maxRecDepth 100000
set_option maxHeartbeats 1000000
namespace L2
open PySem PySem.Spec PyProof.Rows
structure MS (n : Nat) (bs : List Bool) (ks : List Int) : Prop where
  nd : ks.Nodup
  mem : ∀ k : Int, k ∈ ks ↔ ∃ t : Nat, k = t ∧ t < n ∧ bs.getD t false = true
theorem range_cnt (a : Nat) (bs : List Bool) : ∀ k, ((List.range k).filter fun j => bs.getD (a + j) false).length = dcnt a k bs
  | 0 => rfl
  | k + 1 => by
    rw [List.range_succ, List.filter_append, List.length_append, range_cnt a bs k, dcnt_succ]
    congr 1
    simp only [List.filter_cons, List.filter_nil]
    split <;> simp_all
theorem nodup_cnt {a k : Nat} {bs : List Bool} {ks : List Int} (nd : ks.Nodup) (h : ∀ x : Int, x ∈ ks ↔ ∃ j : Nat, j < k ∧ x = ((a + j : Nat) : Int) ∧ bs.getD (a + j) false = true) : ks.length = dcnt a k bs := by
  rw [← range_cnt a bs k]
  have ndr : (((List.range k).filter fun j => bs.getD (a + j) false).map fun (j : Nat) => ((a + j : Nat) : Int)).Nodup := by
    have n1 : ((List.range k).filter fun j => bs.getD (a + j) false).Nodup := List.Nodup.sublist List.filter_sublist List.nodup_range
    refine List.Pairwise.map _ (fun x y hxy => ?_) n1
    intro e
    exact hxy (by omega)
  have l1 := nodup_len nd (m := ((List.range k).filter fun j => bs.getD (a + j) false).map fun (j : Nat) => ((a + j : Nat) : Int)) (fun x hx => by
    obtain ⟨j, h1, h2, h3⟩ := (h x).mp hx
    exact List.mem_map.mpr ⟨j, List.mem_filter.mpr ⟨List.mem_range.mpr h1, h3⟩, h2.symm⟩)
  have l2 := nodup_len ndr (m := ks) (fun x hx => by
    obtain ⟨j, hj, rfl⟩ := List.mem_map.mp hx
    obtain ⟨h1, h2⟩ := List.mem_filter.mp hj
    exact (h _).mpr ⟨j, List.mem_range.mp h1, rfl, h2⟩)
  rw [List.length_map] at l1 l2
  omega
theorem MS.len {n : Nat} {bs : List Bool} {ks : List Int} (h : MS n bs ks) : ks.length = dcnt 0 n bs :=
  nodup_cnt h.nd fun x => (h.mem x).trans ⟨fun ⟨t, a, b, c⟩ => ⟨t, b, by rw [Nat.zero_add]; exact a, by rw [Nat.zero_add]; exact c⟩, fun ⟨j, a, b, c⟩ => ⟨j, by rw [Nat.zero_add] at b; exact b, a, by rw [Nat.zero_add] at c; exact c⟩⟩
section
variable {K : PySem.W.Frag} {σ : St} {H : Hp} {Q : VK} {cs : List Nat} {tt : TT}
end
end L2
set_option Elab.async false
set_option linter.all false
set_option maxRecDepth 100000
set_option maxHeartbeats 1000000
namespace L2
open PySem PySem.Spec PyProof.Rows
section
variable {K : PySem.W.Frag} {σ : St} {H : Hp} {Q : VK} {cs : List Nat} {te : TE}
end
end L2
set_option Elab.async false
set_option linter.all false
set_option maxRecDepth 100000
set_option maxHeartbeats 1000000
namespace L2
open PySem PySem.Spec PyProof.Rows
def Cell (H : Hp) (v : V) : Prop := flatV v = true ∨ ∃ p, v = .ref p ∧ ((∃ xs, H p = some (.lst xs)) ∨ ∃ xs, H p = some (.tup xs))
theorem Cell.same {H H' : Hp} {v : V} (h : Cell H v) (s : Same H H') : Cell H' v := by
  rcases h with h | ⟨p, e, ⟨xs, h⟩ | ⟨xs, h⟩⟩
  · exact .inl h
  · exact .inr ⟨p, e, .inl ⟨xs, s _ _ h⟩⟩
  · exact .inr ⟨p, e, .inr ⟨xs, s _ _ h⟩⟩
def isWh : V → Bool
  | .int _ => true
  | _ => false
theorem kit_lst_int {K : PySem.W.Frag} : PySem.W.kitOne K (.type "list") (.type "int") = some false := by kernel_rfl
theorem cell_int {K : PySem.W.Frag} {H : Hp} {v : V} {Q : VK} (h : Cell H v) (q1 : isWh v = false → (∀ b, v ≠ .bl b) → Q (.bl false) H) (q2 : (∃ b, v = .bl b) → Q (.bl true) H) (q3 : isWh v = true → Q (.bl true) H) : rIsI K [v, .ty "int"] H Q := by
  rcases h with h | ⟨p, rfl, ⟨xs, h⟩ | ⟨xs, h⟩⟩
  · cases v with
    | non => exact ⟨_, _, _, _, rfl, .non, kit_non_int, q1 rfl (fun b z => by cases z)⟩
    | bl b => exact ⟨_, _, _, _, rfl, .bl b, kit_bool_int, q2 ⟨b, rfl⟩⟩
    | int i => exact ⟨_, _, _, _, rfl, .int i, kit_same _, q3 rfl⟩
    | str x => exact ⟨_, _, _, _, rfl, .str x, kit_str_int, q1 rfl (fun b z => by cases z)⟩
    | _ => cases h
  · exact ⟨_, _, _, _, rfl, .lst h, kit_lst_int, q1 rfl (fun b z => by cases z)⟩
  · exact ⟨_, _, _, _, rfl, .tup h, kit_tuple_int, q1 rfl (fun b z => by cases z)⟩
def btw (v : V) (lo hi : Int) : Bool := match v with
  | .int n => decide (lo ≤ n ∧ n ≤ hi)
  | _ => false
theorem btw_int {v : V} {lo hi : Int} (h : btw v lo hi = true) : ∃ x : Int, v = .int x ∧ lo ≤ x ∧ x ≤ hi := by
  cases v with
  | int n => exact ⟨n, rfl, of_decide_eq_true h⟩
  | _ => cases h
def dvB (s : Int) (r : List Int) : Bool := decide (0 ≤ s) || r.all fun n => decide (n % 2 ^ (-s).toNat = 0)
theorem dvB_iff {s : Int} {r : List Int} : dvB s r = true ↔ Dv s r := by
  unfold dvB Dv
  rw [Bool.or_eq_true, decide_eq_true_eq, List.all_eq_true]
  constructor
  · rintro (h | h) z x hx
    · omega
    · exact Int.dvd_of_emod_eq_zero (of_decide_eq_true (h x hx))
  · intro h
    by_cases z : 0 ≤ s
    · exact .inl z
    · exact .inr fun x hx => decide_eq_true (Int.emod_eq_zero_of_dvd (h (by omega) x hx))
def partB (rs : List (List Int)) (a s : V) : Bool := btw a 0 ((rs.length : Int) - 1) && btw s (-4000) 4000 && (match a, s with
  | .int x, .int y => dvB y (rs.getD x.toNat [])
  | _, _ => false)
def inC (a b : Str) : V → Bool
  | .str z => decide (z = a ∨ z = b)
  | _ => false
def Itm (K : PySem.W.Frag) (H : Hp) (v : V) : Option (List V) → Prop
  | some c => ∃ p, v = .ref p ∧ SqT K H p c ∧ ∀ u ∈ c, Cell H u
  | none => flatV v = true ∨ ∃ p xs, v = .ref p ∧ H p = some (.lst xs)
theorem Itm.same {K : PySem.W.Frag} {H H' : Hp} {v : V} : ∀ {o : Option (List V)}, Itm K H v o → Same H H' → Itm K H' v o
  | some _, ⟨p, e, h, hc⟩, s => ⟨p, e, s.seqT h, fun u hu => (hc u hu).same s⟩
  | none, .inl h, _ => .inl h
  | none, .inr ⟨p, xs, e, h⟩, s => .inr ⟨p, xs, e, s _ _ h⟩
def deedB (rs : List (List Int)) : Option (List V) → Bool
  | some [w, a, s, b, t] => inC (Str.ofString "sum") (Str.ofString "less") w && partB rs a s && partB rs b t
  | _ => false
def outB (rs : List (List Int)) : Option (List V) → Bool
  | some [a, s, g] => (isWh a && isWh s && isWh g) && (decide ([a, s, g] = [.int 0, .int 0, .int 0]) || (inV g [.int 1, .int (-1)] && partB rs a s))
  | _ => false
end L2
set_option Elab.async false
set_option linter.all false
set_option maxRecDepth 100000
set_option maxHeartbeats 1000000
namespace L2
open PySem PySem.Spec PyProof.Rows
theorem partB_iff {rs : List (List Int)} {a s : V} : partB rs a s = true ↔ ∃ (k : Nat) (y : Int), a = .int k ∧ s = .int y ∧ k < rs.length ∧ Sh4 y (rs.getD k []) := by
  constructor
  · intro h
    unfold partB at h
    rw [Bool.and_eq_true, Bool.and_eq_true] at h
    obtain ⟨⟨h1, h2⟩, h3⟩ := h
    obtain ⟨x, rfl, x0, x1⟩ := btw_int h1
    obtain ⟨y, rfl, y0, y1⟩ := btw_int h2
    obtain ⟨k, rfl⟩ : ∃ k : Nat, x = (k : Int) := ⟨x.toNat, by omega⟩
    exact ⟨k, y, rfl, rfl, by omega, y0, y1, dvB_iff.mp h3⟩
  · rintro ⟨k, y, rfl, rfl, hk, y0, y1, d⟩
    unfold partB
    rw [Bool.and_eq_true, Bool.and_eq_true]
    exact ⟨⟨decide_eq_true ⟨by omega, by omega⟩, decide_eq_true ⟨y0, y1⟩⟩, dvB_iff.mpr d⟩
theorem deedB_iff {rs : List (List Int)} {c : Option (List V)} : deedB rs c = true ↔ ∃ d : Wd, c = some (wTup d) ∧ (d.w = "sum" ∨ d.w = "less") ∧ d.a < rs.length ∧ d.b < rs.length ∧ Sh4 d.s (rs.getD d.a []) ∧ Sh4 d.t (rs.getD d.b []) := by
  constructor
  · intro h
    unfold deedB at h
    split at h
    · rename_i w a s b t
      rw [Bool.and_eq_true, Bool.and_eq_true] at h
      obtain ⟨⟨h1, h2⟩, h3⟩ := h
      obtain ⟨k, y, rfl, rfl, k1, k2⟩ := partB_iff.mp h2
      obtain ⟨m, z, rfl, rfl, m1, m2⟩ := partB_iff.mp h3
      cases w with
      | str x => exact ⟨⟨x, k, y, m, z⟩, rfl, of_decide_eq_true h1, k1, m1, k2, m2⟩
      | _ => cases h1
    · cases h
  · rintro ⟨d, rfl, hw, h1, h2, h3, h4⟩
    unfold deedB wTup
    rw [Bool.and_eq_true, Bool.and_eq_true]
    exact ⟨⟨decide_eq_true hw, partB_iff.mpr ⟨_, _, rfl, rfl, h1, h3⟩⟩, partB_iff.mpr ⟨_, _, rfl, rfl, h2, h4⟩⟩
def rowC (rs : List (List Int)) : Option (List V) → List Int
  | some [.str w, .int a, .int s, .int b, .int t] => rowD rs ⟨w, a.toNat, s, b.toNat, t⟩
  | _ => []
theorem rowC_w {rs : List (List Int)} {d : Wd} : rowC rs (some (wTup d)) = rowD rs d := by
  show rowD rs ⟨d.w, ((d.a : Nat) : Int).toNat, d.s, ((d.b : Nat) : Int).toNat, d.t⟩ = _
  rw [Int.toNat_natCast, Int.toNat_natCast]
def rows0 (n : Nat) : List (List Int) := (List.range n).map (unitRow n)
def rowsC (n : Nat) (cs : List (Option (List V))) : List (List Int) := cs.foldl (fun rs c => rs ++ [rowC rs c]) (rows0 n)
theorem rowsC_snoc (n : Nat) (cs : List (Option (List V))) (c : Option (List V)) : rowsC n (cs ++ [c]) = rowsC n cs ++ [rowC (rowsC n cs) c] := by unfold rowsC; rw [List.foldl_append]; rfl
theorem rowsC_take {n : Nat} {cs : List (Option (List V))} {i : Nat} {c : Option (List V)} (h : cs[i]? = some c) : rowsC n (cs.take (i + 1)) = rowsC n (cs.take i) ++ [rowC (rowsC n (cs.take i)) c] := by
  rw [List.take_succ, h, Option.toList_some, rowsC_snoc]
def goodD (n : Nat) (cs : List (Option (List V))) (k : Nat) : Bool := deedB (rowsC n (cs.take k)) (cs.getD k none)
def goodO (n : Nat) (cs os : List (Option (List V))) (k : Nat) : Bool := decide (k < 12) && outB (rowsC n cs) (os.getD k none)
theorem goodD_at {n : Nat} {cs : List (Option (List V))} {k : Nat} {c : Option (List V)} (h : cs[k]? = some c) : goodD n cs k = deedB (rowsC n (cs.take k)) c := by
  unfold goodD
  rw [List.getD_eq_getElem?_getD, h]
  rfl
def FBad (g : Nat → Bool) (m k : Nat) : Prop := k < m ∧ g k = false ∧ ∀ j, j < k → g j = true
def WPlc (n : Nat) (cs os : List (Option (List V))) : Option Nat → Prop
  | none => (∀ j, j < cs.length → goodD n cs j = true) ∧ ∀ j, j < os.length → goodO n cs os j = true
  | some m => FBad (goodD n cs) cs.length m ∨ ((∀ j, j < cs.length → goodD n cs j = true) ∧ ∃ k, m = cs.length + k ∧ FBad (goodO n cs os) os.length k)
theorem FBad.not {g : Nat → Bool} {m k : Nat} (h : FBad g m k) (h' : ∀ j, j < m → g j = true) : False := by
  have := h' _ h.1
  rw [h.2.1] at this
  cases this
structure Itms (K : PySem.W.Frag) (H : Hp) (us : List V) (cs : List (Option (List V))) : Prop where
  len : us.length = cs.length
  at_ : ∀ (k : Nat) (c : Option (List V)), cs[k]? = some c → ∃ v, us[k]? = some v ∧ Itm K H v c
theorem Itms.same {K : PySem.W.Frag} {H H' : Hp} {us : List V} {cs : List (Option (List V))} (h : Itms K H us cs) (s : Same H H') : Itms K H' us cs := ⟨h.len, fun k c e => by
  obtain ⟨v, e1, e2⟩ := h.at_ k c e
  exact ⟨v, e1, e2.same s⟩⟩
def RBC (n : Nat) (cs : List (Option (List V))) : Prop := ∀ k, k ≤ cs.length → (∀ j, j < k → goodD n cs j = true) → RB 8000 (rowsC n (cs.take k))
theorem rowD_len {rs : List (List Int)} {d : Wd} {n : Nat} (hw : ∀ r ∈ rs, r.length = n) (ha : d.a < rs.length) (hb : d.b < rs.length) : (rowD rs d).length = n := by
  have e1 : rs.getD d.a [] ∈ rs := by rw [List.getD_eq_getElem?_getD, List.getElem?_eq_getElem ha]; exact List.getElem_mem ha
  have e2 : rs.getD d.b [] ∈ rs := by rw [List.getD_eq_getElem?_getD, List.getElem?_eq_getElem hb]; exact List.getElem_mem hb
  unfold rowD
  rw [List.length_zipWith, hw _ e1, hw _ e2]
  simp
theorem rowsC_wd {n : Nat} {cs : List (Option (List V))} : ∀ {k : Nat}, k ≤ cs.length → (∀ j, j < k → goodD n cs j = true) → ∀ r ∈ rowsC n (cs.take k), r.length = n
  | 0, _, _, r, hr => by
    have : r ∈ rows0 n := hr
    unfold rows0 at this
    obtain ⟨i, _, rfl⟩ := List.mem_map.mp this
    unfold unitRow
    simp
  | k + 1, hk, hg, r, hr => by
    have hk' : k < cs.length := by omega
    have e := List.getElem?_eq_getElem hk'
    generalize cs[k] = c at e
    have ih := rowsC_wd (k := k) (by omega) (fun j hj => hg j (by omega))
    rw [rowsC_take e] at hr
    rcases List.mem_append.mp hr with h | h
    · exact ih r h
    · have g := hg k (by omega)
      rw [goodD_at e] at g
      obtain ⟨d, rfl, _, h1, h2, _, _⟩ := deedB_iff.mp g
      rw [List.mem_singleton.mp h, rowC_w]
      exact rowD_len ih h1 h2
end L2
set_option Elab.async false
set_option linter.all false
set_option maxRecDepth 100000
set_option maxHeartbeats 1000000
namespace L2
open PySem PySem.Spec PyProof.Rows
section
variable {prog : Program} {w : World} {A : Around} {E : Value → Shared → Prop} {s : Shared}
end
end L2
set_option Elab.async false
set_option linter.all false
set_option maxRecDepth 100000
set_option maxHeartbeats 1000000
namespace L2
open PySem PySem.Spec PyProof.Rows
end L2
set_option Elab.async false
set_option linter.all false
set_option maxRecDepth 100000
set_option maxHeartbeats 1000000
namespace L2
open PySem PySem.Spec PyProof.Rows
def wtC : Option (List V) → Nat
  | some [_, _, .int s, _, .int t] => max s.toNat t.toNat + 1
  | _ => 0
def wts (cs : List (Option (List V))) : Nat := (cs.map wtC).sum
theorem wts_take {cs : List (Option (List V))} {k : Nat} {c : Option (List V)} (h : cs[k]? = some c) : wts (cs.take (k + 1)) = wts (cs.take k) + wtC c := by
  unfold wts
  rw [List.take_succ, h, Option.toList_some, List.map_append, List.sum_append]
  rfl
theorem wts_le {cs : List (Option (List V))} (k : Nat) : wts (cs.take k) ≤ wts cs := by
  unfold wts
  conv => rhs; rw [← List.take_append_drop k cs, List.map_append, List.sum_append]
  omega
theorem mvI_any {s n : Int} {b c : Nat} (h1 : s.toNat ≤ c) (h : n.natAbs ≤ 2 ^ b) : (mvI s n).natAbs ≤ 2 ^ (b + c) := by
  by_cases h0 : 0 ≤ s
  · exact mvI_bd h0 h1 h
  · rw [mvI_down (by omega)]
    refine Nat.le_trans ?_ (Nat.le_trans h (Nat.pow_le_pow_right (by decide) (by omega)))
    exact Int.natAbs_ediv_le_natAbs _ _
theorem rowD_any {rs : List (List Int)} {d : Wd} {b c : Nat} (h : RB b rs) (ha : d.a < rs.length) (hb : d.b < rs.length) (h1 : d.s.toNat ≤ c) (h2 : d.t.toNat ≤ c) : ∀ x ∈ rowD rs d, x.natAbs ≤ 2 ^ (b + (c + 1)) := by
  have ea := getD_of (d := []) (List.getElem?_eq_getElem ha)
  have eb := getD_of (d := []) (List.getElem?_eq_getElem hb)
  have ma := List.getElem_mem ha
  have mb := List.getElem_mem hb
  unfold rowD
  rw [ea, eb]
  intro x hx
  obtain ⟨i, hi⟩ := List.getElem?_of_mem hx
  rw [List.getElem?_zipWith] at hi
  cases e1 : rs[d.a][i]? with
  | none => rw [e1] at hi; cases hi
  | some u =>
    cases e2 : rs[d.b][i]? with
    | none => rw [e1, e2] at hi; cases hi
    | some v =>
      rw [e1, e2] at hi
      have hi := Option.some.inj hi
      subst hi
      have b1 := mvI_any h1 ((h _ ma).2 u (List.mem_of_getElem? e1))
      have b2 := mvI_any h2 ((h _ mb).2 v (List.mem_of_getElem? e2))
      have b3 : (sgW d.w * mvI d.t v).natAbs = (mvI d.t v).natAbs := by
        have : sgW d.w = 1 ∨ sgW d.w = -1 := by
          unfold sgW
          split
          · exact .inr rfl
          · exact .inl rfl
        rcases this with z | z <;> rw [z] <;> omega
      have e : (2 : Nat) ^ (b + (c + 1)) = 2 ^ (b + c) + 2 ^ (b + c) := by rw [← Nat.add_assoc, Nat.pow_succ]; omega
      rw [e]
      refine Nat.le_trans (Int.natAbs_add_le _ _) ?_
      omega
theorem rbc_of {n : Nat} {cs : List (Option (List V))} (hn : n ≤ 12) (h : wts cs ≤ 8000) : RBC n cs := by
  have key : ∀ k, k ≤ cs.length → (∀ j, j < k → goodD n cs j = true) → RB (wts (cs.take k)) (rowsC n (cs.take k)) := by
    intro k
    induction k with
    | zero =>
      intro _ _ r hr
      have : r ∈ rows0 n := hr
      unfold rows0 at this
      obtain ⟨i, _, rfl⟩ := List.mem_map.mp this
      refine ⟨by rw [unitRow_len]; exact hn, fun x hx => ?_⟩
      rcases unitRow_bound hx with z | z <;> subst z <;> (show _ ≤ 2 ^ 0; decide)
    | succ k ih =>
      intro hk hg
      have hk' : k < cs.length := by omega
      have e := List.getElem?_eq_getElem hk'
      generalize cs[k] = c at e
      have I := ih (by omega) (fun j hj => hg j (by omega))
      have g := hg k (by omega)
      rw [goodD_at e] at g
      obtain ⟨d, rfl, _, h1, h2, _, _⟩ := deedB_iff.mp g
      rw [rowsC_take e, wts_take e, rowC_w]
      have wd := rowsC_wd (n := n) (cs := cs) (k := k) (by omega) (fun j hj => hg j (by omega))
      refine I.snoc (by omega) (by rw [rowD_len wd h1 h2]; exact hn) ?_
      have : wtC (some (wTup d)) = max d.s.toNat d.t.toNat + 1 := rfl
      rw [this]
      exact rowD_any I h1 h2 (Nat.le_max_left _ _) (Nat.le_max_right _ _)
  intro k hk hg r hr
  have := key k hk hg r hr
  have l := wts_le (cs := cs) k
  exact ⟨this.1, fun x hx => Nat.le_trans (this.2 x hx) (Nat.pow_le_pow_right (by decide) (by omega))⟩
end L2
set_option Elab.async false
set_option linter.all false
set_option maxRecDepth 100000
set_option maxHeartbeats 1000000
namespace L2
open PySem PySem.Spec PyProof.Rows
section
variable {K : PySem.W.Frag} {H : Hp}
theorem Itms.take {us : List V} {cs : List (Option (List V))} (h : Itms K H us cs) (k : Nat) : Itms K H (us.take k) (cs.take k) := by
  refine ⟨by rw [List.length_take, List.length_take, h.len], fun j c e => ?_⟩
  rw [List.getElem?_take] at e
  split at e
  · obtain ⟨v, e1, e2⟩ := h.at_ j c e
    refine ⟨v, ?_, e2⟩
    rw [List.getElem?_take, if_pos (by assumption)]
    exact e1
  · cases e
theorem Itms.drop {us : List V} {cs : List (Option (List V))} (h : Itms K H us cs) (k : Nat) : Itms K H (us.drop k) (cs.drop k) := by
  refine ⟨by rw [List.length_drop, List.length_drop, h.len], fun j c e => ?_⟩
  rw [List.getElem?_drop] at e
  obtain ⟨v, e1, e2⟩ := h.at_ _ c e
  exact ⟨v, by rw [List.getElem?_drop]; exact e1, e2⟩
theorem Itms.one {v : V} {c : Option (List V)} (h : Itm K H v c) : Itms K H [v] [c] := ⟨rfl, fun k x e => by
  cases k with
  | zero => cases e; exact ⟨v, rfl, h⟩
  | succ k => cases e⟩
theorem itms_of {α : Type} {f : α → List V} (hf : ∀ a, ∀ v ∈ f a, flatV v = true) {us : List V} {ds : List α} (h : HTs f H us ds) : Itms K H us (ds.map fun d => some (f d)) := by
  refine ⟨by rw [List.length_map, h.len], fun k c e => ?_⟩
  rw [List.getElem?_map] at e
  cases ed : ds[k]? with
  | none => rw [ed] at e; cases e
  | some d =>
    rw [ed] at e
    cases e
    obtain ⟨p, e1, e2⟩ := h.at_ k d ed
    exact ⟨.ref p, e1, p, rfl, SqT.of e2, fun v hv => .inl (hf d v hv)⟩
end
end L2
set_option Elab.async false
set_option linter.all false
set_option maxRecDepth 100000
set_option maxHeartbeats 1000000
namespace L2
open PySem PySem.Spec PyProof.Rows
def IsLs (H : Hp) (v : V) : Prop := ∃ l us, v = .ref l ∧ H l = some (.lst us)
theorem CalX.imp {P : Program} {w : World} {K : PySem.W.Frag} {mg : Str → Option Value} {base : Heap} {k : Nat} {x : Str} {ps : List Str} {sp sp' : Sp} (C : CalX P w K mg base k x ps sp) (h : ∀ vs H Q E, sp' vs H Q E → sp vs H Q E) : CalX P w K mg base k x ps sp' := by
  obtain ⟨f, fd, a, b, c, d⟩ := C.ex
  exact ⟨f, fd, a.imp h, b, c, d⟩
inductive WSay (K : PySem.W.Frag) (H : Hp) : V → V → V → Option V → Prop where
  | good {n : Nat} {dl gl : Addr} {us ws : List V} {cs os : List (Option (List V))} {o : Option Nat} (n1 : 1 ≤ n) (n12 : n ≤ 12) (hdl : H dl = some (.lst us)) (hgl : H gl = some (.lst ws)) (ic : Itms K H us cs) (io : Itms K H ws os) (lc : cs.length ≤ 400) (lo : os.length ≤ 400) (rb : RBC n cs) (w : WPlc n cs os o) : WSay K H (.int n) (.ref dl) (.ref gl) (o.map fun k => .int (k : Nat))
  | bad {a d o : V} (c : Cell H a) (h : btw a 1 12 = false ∨ NoL K H d ∨ (IsLs H d ∧ NoL K H o)) : WSay K H a d o (some .non)
end L2
set_option Elab.async false
set_option linter.all false
set_option maxRecDepth 100000
set_option maxHeartbeats 1000000
namespace L2
open PySem PySem.Spec PyProof.Rows
def Dat (K : PySem.W.Frag) (H : Hp) (v : V) : Prop := ∃ dt, Is K H v dt ∧ dep dt ≤ 5
theorem Dat.same {K : PySem.W.Frag} {H H' : Hp} {v : V} (h : Dat K H v) (s : Same H H') : Dat K H' v := by
  obtain ⟨dt, h1, h2⟩ := h
  exact ⟨dt, h1.same s, h2⟩
end L2
set_option Elab.async false
set_option linter.all false
set_option maxRecDepth 100000
set_option maxHeartbeats 1000000
namespace L2
open PySem PySem.Spec PyProof.Rows
def cW (ds : List Wd) : List (Option (List V)) := ds.map fun d => some (wTup d)
def cG (gs : List Go) : List (Option (List V)) := gs.map fun g => some (gTp g)
end L2
set_option Elab.async false
set_option linter.all false
set_option maxRecDepth 100000
set_option maxHeartbeats 1000000
namespace L2
open PySem PySem.Spec PyProof.Rows
@[elab_as_elim] theorem abs_ {C : Hp → Prop} {H : Hp} {p : Addr} {o : HO} (np : H p = none) (k : ∀ H', Same H H' → H' p = some o → C H') : C (upd H p o) := k _ (same_new np _) upd_same
def NoT (H : Hp) (v : V) : Prop := flatV v = true ∨ ∃ p, v = .ref p ∧ ((∃ xs, H p = some (.lst xs)) ∨ ∃ kvs, H p = some (.dK kvs))
theorem NoT.same {H H' : Hp} {v : V} (h : NoT H v) (s : Same H H') : NoT H' v := by
  rcases h with h | ⟨p, e, ⟨xs, h⟩ | ⟨kvs, h⟩⟩
  · exact .inl h
  · exact .inr ⟨p, e, .inl ⟨xs, s _ _ h⟩⟩
  · exact .inr ⟨p, e, .inr ⟨kvs, s _ _ h⟩⟩
inductive IsWb (K : PySem.W.Frag) (H : Hp) : V → Bool → Prop where
  | no {v : V} (h : NoT H v) : IsWb K H v false
  | len {x : Addr} {xs : List V} (hx : H x = some (.tup xs)) (h : xs.length ≠ 3) : IsWb K H (.ref x) false
  | web {x : Addr} {a d o : V} {v : Option V} (hx : H x = some (.tup [a, d, o])) (h : WSay K H a d o v) : IsWb K H (.ref x) v.isNone
section
variable {K : PySem.W.Frag} {H : Hp}
theorem wb_good {x dl gl : Addr} {n : Nat} {us ws : List V} {cs os : List (Option (List V))} (hx : H x = some (.tup [.int n, .ref dl, .ref gl])) (n1 : 1 ≤ n) (n12 : n ≤ 12) (hdl : H dl = some (.lst us)) (hgl : H gl = some (.lst ws)) (ic : Itms K H us cs) (io : Itms K H ws os) (lc : cs.length ≤ 400) (lo : os.length ≤ 400) (rb : RBC n cs) (w : WPlc n cs os none) : IsWb K H (.ref x) true :=
  .web (v := (none : Option Nat).map fun k => .int (k : Nat)) hx (.good n1 n12 hdl hgl ic io lc lo rb w)
theorem itms_w {us : List V} {ds : List Wd} (h : HTs wTup H us ds) : Itms K H us (cW ds) := itms_of (fun d v hv => by unfold wTup at hv; simp only [List.mem_cons, List.not_mem_nil, or_false] at hv; rcases hv with e | e | e | e | e <;> subst e <;> rfl) h
theorem itms_g {us : List V} {gs : List Go} (h : HTs gTp H us gs) : Itms K H us (cG gs) := itms_of (fun d v hv => by unfold gTp at hv; simp only [List.mem_cons, List.not_mem_nil, or_false] at hv; rcases hv with e | e | e <;> subst e <;> rfl) h
end
theorem cW_len (ds : List Wd) : (cW ds).length = ds.length := by unfold cW; rw [List.length_map]
theorem cG_len (gs : List Go) : (cG gs).length = gs.length := by unfold cG; rw [List.length_map]
theorem Wb.wb {K : PySem.W.Frag} {H : Hp} {x dl gl : Addr} {n : Nat} {us : List V} {ds : List Wd} {os : List V} {gs : List Go} (W : Wb H x dl gl n us ds os gs) (n1 : 1 ≤ n) (n12 : n ≤ 12) (ld : ds.length ≤ 400) (lg : gs.length ≤ 400) (wp : WPlc n (cW ds) (cG gs) none) (wt : wts (cW ds) ≤ 8000) : IsWb K H (.ref x) true :=
  wb_good W.tup n1 n12 W.dll W.gll (itms_w W.hds) (itms_g W.hgs) (by rw [cW_len]; exact ld) (by rw [cG_len]; exact lg) (rbc_of n12 wt) wp
theorem notB_f {H : Hp} {Q : VK} (h : Q (.bl false) H) : rNotB (.bl false) (.bl false) H Q := ⟨false, rfl, .inl ⟨false, rfl, h⟩⟩
end L2
set_option Elab.async false
set_option linter.all false
set_option maxRecDepth 100000
set_option maxHeartbeats 1000000
namespace L2
open PySem PySem.Spec PyProof.Rows
section
variable {X : Cx} {o i : Expr} {pos : Pos} {td ty : TE}
end
section
variable {σ : St} {H : Hp} {Q : VK} {a : Addr}
end
theorem Rd.same {H H' : Hp} {a : Addr} {u : HO} (r : Rd H a u) (s : Same H H') : Rd H' a u := r.imp (fun h => s _ _ h) fun ⟨o, h⟩ => ⟨o, s _ _ h⟩
section
variable {α : Type}
def lk (rows : List (Int × α)) (c : Int) : Option α := (rows.find? fun r => decide (r.1 = c)).map (·.2)
def putL (rows : List (Int × α)) (c : Int) (x : α) : List (Int × α) := if (rows.any fun r => decide (r.1 = c)) = true then rows.map (fun r => if r.1 = c then (r.1, x) else r) else rows ++ [(c, x)]
theorem lk_cons {c d : Int} {x : α} {r : List (Int × α)} : lk ((d, x) :: r) c = if d = c then some x else lk r c := by
  unfold lk
  rw [List.find?_cons]
  by_cases e : d = c
  · rw [if_pos e, decide_eq_true e]; rfl
  · rw [if_neg e, decide_eq_false e]
theorem lk_any {c : Int} : ∀ rows : List (Int × α), (rows.any fun r => decide (r.1 = c)) = (lk rows c).isSome
  | [] => rfl
  | (d, x) :: r => by
    rw [List.any_cons, lk_any r, lk_cons]
    by_cases e : d = c
    · rw [if_pos e, decide_eq_true e]; rfl
    · rw [if_neg e, decide_eq_false e]; rfl
inductive DV (R : V → α → Prop) : List (Key × V) → List (Int × α) → Prop
  | nil : DV R [] []
  | cons {c : Int} {v : V} {x : α} {kvs : List (Key × V)} {rows : List (Int × α)} (h : R v x) (r : DV R kvs rows) : DV R ((.inl c, v) :: kvs) ((c, x) :: rows)
variable {R : V → α → Prop} {kvs : List (Key × V)} {rows : List (Int × α)}
theorem DV.imp {R' : V → α → Prop} (h : DV R kvs rows) (f : ∀ v x, R v x → R' v x) : DV R' kvs rows := by
  induction h with
  | nil => exact .nil
  | cons h _ ih => exact .cons (f _ _ h) ih
theorem DV.len (h : DV R kvs rows) : kvs.length = rows.length := by
  induction h with
  | nil => rfl
  | cons _ _ ih => rw [List.length_cons, List.length_cons, ih]
theorem DV.keys (h : DV R kvs rows) : (kvs.map fun q => kV q.1) = (rows.map (·.1)).map V.int := by
  induction h with
  | nil => rfl
  | cons _ _ ih => rw [List.map_cons, ih]; rfl
theorem inl_iff {a b : Int} : (Sum.inl a : Key) = .inl b ↔ a = b := ⟨fun e => Sum.inl.inj e, fun e => by rw [e]⟩
theorem DV.val (h : DV R kvs rows) (c : Int) : (lk rows c = none → valV kvs (.inl c) = none) ∧ ∀ x, lk rows c = some x → ∃ v, valV kvs (.inl c) = some v ∧ R v x := by
  induction h with
  | nil => exact ⟨fun _ => rfl, fun x h => by cases h⟩
  | @cons d v y kvs rows h r ih =>
    rw [lk_cons]
    by_cases e : d = c
    · rw [if_pos e, valV_pos (by rw [e])]
      exact ⟨(fun z => by cases z), fun x z => by cases z; exact ⟨v, rfl, h⟩⟩
    · rw [if_neg e, valV_neg (fun z => e (inl_iff.mp z))]
      exact ih
theorem DV.any (h : DV R kvs rows) (c : Int) : (kvs.any fun kv => decide (kv.1 = .inl c)) = (rows.any fun r => decide (r.1 = c)) := by
  rw [valV_any, lk_any]
  cases e : lk rows c with
  | none => rw [(h.val c).1 e]; rfl
  | some x =>
    obtain ⟨v, hv, _⟩ := (h.val c).2 x e
    rw [hv]
    rfl
theorem DV.mapP (h : DV R kvs rows) {c : Int} {v : V} {x : α} (hv : R v x) : DV R (kvs.map fun kv => if kv.1 = .inl c then (kv.1, v) else kv) (rows.map fun r => if r.1 = c then (r.1, x) else r) := by
  induction h with
  | nil => exact .nil
  | @cons d u y kvs rows h r ih =>
    rw [List.map_cons, List.map_cons]
    by_cases e : d = c
    · rw [if_pos (by rw [e]), if_pos e]
      exact .cons hv ih
    · rw [if_neg (fun z => e (inl_iff.mp z)), if_neg e]
      exact .cons h ih
theorem DV.snoc (h : DV R kvs rows) {c : Int} {v : V} {x : α} (hv : R v x) : DV R (kvs ++ [(.inl c, v)]) (rows ++ [(c, x)]) := by
  induction h with
  | nil => exact .cons hv .nil
  | cons h r ih => exact .cons h ih
theorem DV.put (h : DV R kvs rows) {c : Int} {v : V} {x : α} (hv : R v x) : DV R (putK kvs (.inl c) v) (putL rows c x) := by
  unfold putK putL
  rw [h.any c]
  split
  · exact h.mapP hv
  · exact h.snoc hv
end
def cntW : Nat → Int → Int → Nat
  | 0, n, w => if n = 0 ∧ w = 0 then 1 else 0
  | L + 1, n, w => if n % 2 = 0 then cntW L (n / 2) w else cntW L ((n + 1) / 2) (w - 1) + cntW L ((n - 1) / 2) (w - 1)
def stepsF (n : Int) (p : Nat) : List (Int × Int) := if p < Builtin.Int.intBits n then [] else if n % 2 = 0 then [(0, n / 2)] else [(-1, (n + 1) / 2), (1, (n - 1) / 2)].filter fun s => decide (wn s.2 < wn n)
end L2
set_option Elab.async false
set_option linter.all false
set_option maxRecDepth 100000
set_option maxHeartbeats 1000000
namespace L2
open PySem PySem.Spec PyProof.Rows
section
variable {σ : St} {H : Hp} {D : Ends} {g : TG} {tb : TS} {d : Addr} {o : Obj} {kvs : List (Key × V)}
end
def addK (ks : List Int) (x : Int) : List Int := if x ∈ ks then ks else ks ++ [x]
def leftsF (r : Int) (p : Nat) : List Int := (stepsF r p).map (·.2)
def nxtK (p : Nat) (acc : List Int) (r : Int) : List Int := (leftsF r p).foldl addK acc
def keyL (places : Nat) (n : Int) : Nat → List Int
  | 0 => [n]
  | i + 1 => (keyL places n i).foldl (nxtK (places - i)) []
theorem two_len {a : Int} : ∀ {xs : List Int}, xs.Nodup → (∀ x ∈ xs, x = a ∨ x = a + 1) → xs.length ≤ 2
  | [], _, _ => Nat.zero_le _
  | [_], _, _ => Nat.le_succ 1
  | [_, _], _, _ => Nat.le_refl 2
  | x :: y :: z :: r, nd, h => by
    have h1 := h x List.mem_cons_self
    have h2 := h y (List.mem_cons_of_mem _ List.mem_cons_self)
    have h3 := h z (List.mem_cons_of_mem _ (List.mem_cons_of_mem _ List.mem_cons_self))
    rw [List.nodup_cons, List.nodup_cons] at nd
    have n1 : x ≠ y := fun e => nd.1 (e ▸ List.mem_cons_self)
    have n2 : x ≠ z := fun e => nd.1 (e ▸ List.mem_cons_of_mem _ List.mem_cons_self)
    have n3 : y ≠ z := fun e => nd.2.1 (e ▸ List.mem_cons_self)
    omega
def stT (s : Int × Int) : List V := [.int s.1, .int s.2]
def stR (H : Hp) (v : V) (ss : List (Int × Int)) : Prop := ∃ l us, v = .ref l ∧ H l = some (.lst us) ∧ HTs stT H us ss
theorem stR.same {H H' : Hp} {v : V} {ss : List (Int × Int)} (h : stR H v ss) (s : Same H H') : stR H' v ss := by
  obtain ⟨l, us, e, h1, h2⟩ := h
  exact ⟨l, us, e, s _ _ h1, h2.same s⟩
def rowL (ks : List Int) (p : Nat) : List (Int × List (Int × Int)) := ks.map fun r => (r, stepsF r p)
theorem HTs.chgO {α : Type} {f : α → List V} {H H' : Hp} {a : Addr} {o : HO} {vs : List V} {xs : List α} (h : HTs f H vs xs) (ha : H a = some o) (hn : ∀ ys, o ≠ .tup ys) (c : Chg a H H') : HTs f H' vs xs := ⟨h.len, fun k x e => by
  obtain ⟨p, e1, e2⟩ := h.at_ k x e
  exact ⟨p, e1, c _ _ (ne_of e2 ha fun z => hn _ z.symm) e2⟩⟩
def stX (t : Addr) (H : Hp) (v : V) (ss : List (Int × Int)) : Prop := ∃ l us, v = .ref l ∧ l ≠ t ∧ H l = some (.lst us) ∧ HTs stT H us ss
theorem stX.same {t : Addr} {H H' : Hp} {v : V} {ss : List (Int × Int)} (h : stX t H v ss) (s : Same H H') : stX t H' v ss := by
  obtain ⟨l, us, e, n, h1, h2⟩ := h
  exact ⟨l, us, e, n, s _ _ h1, h2.same s⟩
theorem stX.st {t : Addr} {H : Hp} {v : V} {ss : List (Int × Int)} (h : stX t H v ss) : stR H v ss := by
  obtain ⟨l, us, e, n, h1, h2⟩ := h
  exact ⟨l, us, e, h1, h2⟩
theorem stX.chg {t : Addr} {H H' : Hp} {v : V} {ss : List (Int × Int)} {xs : List V} (h : stX t H v ss) (ht : H t = some (.lst xs)) (c : Chg t H H') : stX t H' v ss := by
  obtain ⟨l, us, e, n, h1, h2⟩ := h
  exact ⟨l, us, e, n, c _ _ n h1, h2.chgO ht (by intro ys z; cases z) c⟩
def LvlX (t : Addr) (H : Hp) (P : Nat) (n : Int) (i : Nat) (v : V) : Prop := ∃ d o kvs, v = .ref d ∧ H d = some (.frz o (.dK kvs)) ∧ DV (stX t H) kvs (rowL (keyL P n i) (P - i))
theorem LvlX.same {t : Addr} {H H' : Hp} {P : Nat} {n : Int} {i : Nat} {v : V} (h : LvlX t H P n i v) (s : Same H H') : LvlX t H' P n i v := by
  obtain ⟨d, o, kvs, e, h1, h2⟩ := h
  exact ⟨d, o, kvs, e, s _ _ h1, h2.imp fun _ _ z => z.same s⟩
theorem LvlX.chg {t : Addr} {H H' : Hp} {P : Nat} {n : Int} {i : Nat} {v : V} {xs : List V} (h : LvlX t H P n i v) (ht : H t = some (.lst xs)) (c : Chg t H H') : LvlX t H' P n i v := by
  obtain ⟨d, o, kvs, e, h1, h2⟩ := h
  exact ⟨d, o, kvs, e, c _ _ (ne_of h1 ht (by intro z; cases z)) h1, h2.imp fun _ _ z => z.chg ht c⟩
def LvlAt (H : Hp) (P : Nat) (n : Int) (i : Nat) (v : V) : Prop := ∃ d o kvs, v = .ref d ∧ H d = some (.frz o (.dK kvs)) ∧ DV (stR H) kvs (rowL (keyL P n i) (P - i))
theorem LvlAt.same {H H' : Hp} {P : Nat} {n : Int} {i : Nat} {v : V} (h : LvlAt H P n i v) (s : Same H H') : LvlAt H' P n i v := by
  obtain ⟨d, o, kvs, e, h1, h2⟩ := h
  exact ⟨d, o, kvs, e, s _ _ h1, h2.imp fun _ _ z => z.same s⟩
section
variable {L : Nat} {n : Int}
def Rlz (L : Nat) (n : Int) (q : Nat) (b : Int) (c m : Int) : Prop := ∀ u, 0 < cntW q (b + c) u → 0 < cntW L n (m + u)
structure GR (L : Nat) (n : Int) (q : Nat) (b : Int) (rows : List (Int × Int × Int)) : Prop where
  nd : (rows.map (·.1)).Nodup
  ky : ∀ r ∈ rows, r.1 = 0 ∨ r.1 = 0 + 1
  rl : ∀ r ∈ rows, Rlz L n q b r.1 r.2.1
theorem GR.len {q : Nat} {b : Int} {rows : List (Int × Int × Int)} (h : GR L n q b rows) : rows.length ≤ 2 := by
  rw [← List.length_map (·.1)]
  exact two_len h.nd fun x hx => by
    obtain ⟨r, hr, rfl⟩ := List.mem_map.mp hx
    exact h.ky r hr
end
def tR (H : Hp) (v : V) (x : Int × Int) : Prop := ∃ t, v = .ref t ∧ H t = some (.tup [.int x.1, .int x.2])
theorem tR.same {H H' : Hp} {v : V} {x : Int × Int} (h : tR H v x) (s : Same H H') : tR H' v x := by
  obtain ⟨t, e, h⟩ := h
  exact ⟨t, e, s _ _ h⟩
end L2
set_option Elab.async false
set_option linter.all false
set_option maxRecDepth 100000
set_option maxHeartbeats 1000000
namespace L2
open PySem PySem.Spec PyProof.Rows
section
variable {X : Cx}
end
end L2
set_option Elab.async false
set_option linter.all false
set_option maxRecDepth 100000
set_option maxHeartbeats 1000000
namespace L2
open PySem PySem.Spec PyProof.Rows PySem.W
def lexB : List Int → List Int → Bool
  | x :: xs, y :: ys => if x = y then lexB xs ys else decide (x < y)
  | _, _ => false
def lsO1 (us : List Value) (c : Nat) (dd : Option Addr) (sl : Array (Option Value)) : Obj := { cls := .type "list", dict := dd, data := .seq us.toArray c, slots := sl }
def kyL : List Int → Int
  | [] => 0
  | d :: r => (d + 1) * 3 ^ r.length + kyL r
def Dgs (L : Nat) (xs : List Int) : Prop := xs.length = L ∧ ∀ d ∈ xs, d = -1 ∨ d = 0 ∨ d = 1
theorem kyL_bd : ∀ {xs : List Int}, (∀ d ∈ xs, d = -1 ∨ d = 0 ∨ d = 1) → 0 ≤ kyL xs ∧ kyL xs < 3 ^ xs.length
  | [], _ => by decide
  | d :: r, h => by
    obtain ⟨h0, h1⟩ := kyL_bd fun d hd => h d (List.mem_cons_of_mem _ hd)
    have hd := h d List.mem_cons_self
    have pp : (0 : Int) < 3 ^ r.length := Int.pow_pos (by decide)
    rw [kyL, List.length_cons, Int.pow_succ]
    generalize (3 : Int) ^ r.length = q at *
    rcases hd with e | e | e <;> subst e <;> omega
theorem kyL_lex : ∀ {xs ys : List Int}, xs.length = ys.length → (∀ d ∈ xs, d = -1 ∨ d = 0 ∨ d = 1) → (∀ d ∈ ys, d = -1 ∨ d = 0 ∨ d = 1) → xs ≠ ys → lexB xs ys = decide (kyL xs < kyL ys) ∧ kyL xs ≠ kyL ys
  | [], [], _, _, _, h => absurd rfl h
  | x :: xs, y :: ys, hl, hx, hy, hne => by
    have hl' : xs.length = ys.length := by simpa using hl
    have bx := kyL_bd fun d hd => hx d (List.mem_cons_of_mem _ hd)
    have hby := kyL_bd fun d hd => hy d (List.mem_cons_of_mem _ hd)
    have pp : (0 : Int) < 3 ^ ys.length := Int.pow_pos (by decide)
    rw [lexB, kyL, kyL, hl']
    rw [hl'] at bx
    have dx := hx x List.mem_cons_self
    have dy := hy y List.mem_cons_self
    by_cases e : x = y
    · subst e
      obtain ⟨ih1, ih2⟩ := kyL_lex hl' (fun d hd => hx d (List.mem_cons_of_mem _ hd)) (fun d hd => hy d (List.mem_cons_of_mem _ hd)) fun z => hne (by rw [z])
      rw [if_pos rfl, ih1]
      exact ⟨decide_eq_decide.mpr (by omega), by omega⟩
    · rw [if_neg e]
      generalize (3 : Int) ^ ys.length = q at *
      refine ⟨decide_eq_decide.mpr ?_, ?_⟩
      · rcases dx with z | z | z <;> rcases dy with z' | z' | z' <;> subst z <;> subst z' <;> omega
      · rcases dx with z | z | z <;> rcases dy with z' | z' | z' <;> subst z <;> subst z' <;> omega
structure Lss (h : Heap) (a : Addr) (vs : List Value) (xss : List (List Int)) : Prop where
  len : xss.length = vs.length
  at_ : ∀ (i : Nat) (v : Value) (xs : List Int), vs[i]? = some v → xss[i]? = some xs → ∃ b us c, v = .ref b ∧ b ≠ a ∧ h.get? b = some (lsO1 us c none #[]) ∧ Vals (xs.map V.int) us
  nd : xss.Nodup
  dg : ∃ L, ∀ xs ∈ xss, Dgs L xs
theorem Lss.keep {h h' : Heap} {a : Addr} {vs : List Value} {xss : List (List Int)} (p : Lss h a vs xss) (hk : ∀ b o, b ≠ a → h.get? b = some o → h'.get? b = some o) : Lss h' a vs xss := ⟨p.len, fun i v xs h1 h2 => by
  obtain ⟨b, us, c, e, hb, hg, hv⟩ := p.at_ i v xs h1 h2
  exact ⟨b, us, c, e, hb, hk b _ hb hg, hv⟩, p.nd, p.dg⟩
section
variable {prog : Program} {w : World} {A : Around} {E : Value → Shared → Prop} {s : Shared} {vs : List Value} {xss : List (List Int)} {a : Addr}
theorem Lss.get {h : Heap} (p : Lss h a vs xss) {i : Nat} (hi : i < vs.length) : ∃ b us c, vs.getD i .none = .ref b ∧ b ≠ a ∧ h.get? b = some (lsO1 us c none #[]) ∧ Vals ((xss.getD i []).map V.int) us := by
  have e1 : vs[i]? = some vs[i] := List.getElem?_eq_getElem hi
  have e2 : xss[i]? = some (xss[i]'(by rw [p.len]; exact hi)) := List.getElem?_eq_getElem _
  rw [List.getD_eq_getElem?_getD, List.getD_eq_getElem?_getD, e1, e2]
  exact p.at_ i _ _ e1 e2
theorem Lss.dif {h : Heap} (p : Lss h a vs xss) {i j : Nat} (hi : i < vs.length) (hj : j < vs.length) (hne : i ≠ j) : lexB (xss.getD i []) (xss.getD j []) = decide (kyL (xss.getD i []) < kyL (xss.getD j [])) ∧ kyL (xss.getD i []) ≠ kyL (xss.getD j []) ∧ (xss.getD i []).length = (xss.getD j []).length ∧ xss.getD i [] ≠ xss.getD j [] := by
  have hi' : i < xss.length := by rw [p.len]; exact hi
  have hj' : j < xss.length := by rw [p.len]; exact hj
  have e1 : xss.getD i [] = xss[i] := by rw [List.getD_eq_getElem?_getD, List.getElem?_eq_getElem hi']; rfl
  have e2 : xss.getD j [] = xss[j] := by rw [List.getD_eq_getElem?_getD, List.getElem?_eq_getElem hj']; rfl
  obtain ⟨L, hL⟩ := p.dg
  have d1 := hL _ (List.getElem_mem hi')
  have d2 := hL _ (List.getElem_mem hj')
  have ne : xss[i] ≠ xss[j] := fun z => hne ((List.getElem_inj p.nd).mp z)
  rw [e1, e2]
  obtain ⟨k1, k2⟩ := kyL_lex (d1.1.trans d2.1.symm) d1.2 d2.2 ne
  exact ⟨k1, k2, d1.1.trans d2.1.symm, ne⟩
theorem Lss.inj {h : Heap} (p : Lss h a vs xss) (i j : Nat) (hi : i < vs.length) (hj : j < vs.length) (e : kyL (xss.getD i []) = kyL (xss.getD j [])) : i = j := Classical.byContradiction fun z => (p.dif hi hj z).2.1 e
end
structure HLs (H : Hp) (us : List V) (xss : List (List Int)) : Prop where
  len : us.length = xss.length
  at_ : ∀ (k : Nat) (xs : List Int), xss[k]? = some xs → ∃ b : Addr, us[k]? = some (.ref b) ∧ H b = some (.lst (xs.map V.int))
theorem HLs.same {H H' : Hp} {us : List V} {xss : List (List Int)} (h : HLs H us xss) (s : Same H H') : HLs H' us xss := ⟨h.len, fun k xs e => by
  obtain ⟨b, e1, e2⟩ := h.at_ k xs e
  exact ⟨b, e1, s _ _ e2⟩⟩
end L2
set_option Elab.async false
set_option linter.all false
set_option maxRecDepth 100000
set_option maxHeartbeats 1000000
namespace L2
open PySem PySem.Spec PyProof.Rows
structure IsNaf (ds : List Int) : Prop where
  dg : ∀ d ∈ ds, d = -1 ∨ d = 0 ∨ d = 1
  ad : ∀ k d e, ds[k]? = some d → ds[k + 1]? = some e → d ≠ 0 → e = 0
  la : ∀ d, ds.getLast? = some d → d ≠ 0
theorem IsNaf.more {ds : List Int} (h : IsNaf ds) {z : Nat} {g : Int} (hz : ds = [] ∨ 1 ≤ z) (hg : g = 1 ∨ g = -1) : IsNaf (ds ++ List.replicate z 0 ++ [g]) := by
  refine ⟨fun d hd => ?_, fun k d e h1 h2 hd => ?_, fun d hd => ?_⟩
  · rcases List.mem_append.mp hd with y | y
    · rcases List.mem_append.mp y with y | y
      · exact h.dg d y
      · exact .inr (.inl (List.mem_replicate.mp y).2)
    · rw [List.mem_singleton.mp y]
      omega
  · rw [List.append_assoc] at h1 h2
    rcases Nat.lt_or_ge (k + 1) ds.length with c | c
    · rw [List.getElem?_append_left (by omega)] at h1
      rw [List.getElem?_append_left c] at h2
      exact h.ad k d e h1 h2 hd
    · rw [List.getElem?_append_right c] at h2
      rcases Nat.lt_or_ge (k + 1 - ds.length) z with y | y
      · rw [List.getElem?_append_left (by rw [List.length_replicate]; exact y), List.getElem?_replicate, if_pos y] at h2
        exact (Option.some.inj h2).symm
      · have k1 : k + 1 - ds.length = z := by
          have := (List.getElem?_eq_some_iff.mp h2).1
          rw [List.length_append, List.length_replicate, List.length_singleton] at this
          omega
        rcases Nat.lt_or_ge k ds.length with x | x
        · have : z = 0 := by omega
          rcases hz with q | q
          · rw [q] at x
            exact absurd x (Nat.not_lt_zero _)
          · omega
        · rw [List.getElem?_append_right x, List.getElem?_append_left (by rw [List.length_replicate]; omega), List.getElem?_replicate, if_pos (by omega)] at h1
          exact absurd (Option.some.inj h1).symm hd
  · rw [List.getLast?_append] at hd
    have : g = d := Option.some.inj hd
    omega
theorem HRs.refs {H : Hp} {ex : List Addr} {vs : List V} {rs : List (List Int)} (h : HRs H ex vs rs) {c : List Int} (e : vs = c.map V.int) : c = [] := by
  cases c with
  | nil => rfl
  | cons x c =>
    have l := h.len
    rw [e] at l
    have h0 : 0 < rs.length := by rw [← l]; simp
    obtain ⟨p, e1, _, _⟩ := h.at_ 0 _ (List.getElem?_eq_getElem h0)
    rw [e] at e1
    cases e1
theorem HRs.join {H : Hp} {ex : List Addr} {vs ws : List V} {rs qs : List (List Int)} (h : HRs H ex vs rs) (h' : HRs H ex ws qs) : HRs H ex (vs ++ ws) (rs ++ qs) := by
  refine ⟨by rw [List.length_append, List.length_append, h.len, h'.len], fun k r e => ?_⟩
  rcases Nat.lt_or_ge k rs.length with z | z
  · rw [List.getElem?_append_left z] at e
    obtain ⟨p, e1, e2⟩ := h.at_ k r e
    exact ⟨p, by rw [List.getElem?_append_left (by rw [h.len]; exact z)]; exact e1, e2⟩
  · rw [List.getElem?_append_right z] at e
    obtain ⟨p, e1, e2⟩ := h'.at_ _ r e
    exact ⟨p, by rw [List.getElem?_append_right (by rw [h.len]; exact z), h.len]; exact e1, e2⟩
theorem LL.rows {H : Hp} {l lg : Addr} {zs : List V} {cs rs : List (List Int)} {ex : List Addr} (h : LL H l cs) (hg : H lg = some (.lst zs)) (hz : HRs H ex zs rs) (ne : ∀ c ∈ cs, c ≠ []) : ∃ ws, H l = some (.lst ws) ∧ HRs H [lg] ws cs := by
  obtain ⟨ws, h1, h2, h3⟩ := h
  refine ⟨ws, h1, h2, fun k c e => ?_⟩
  obtain ⟨p, e1, e2, e3⟩ := h3 k c e
  refine ⟨p, e1, e3, fun x hx => ?_⟩
  rw [List.mem_singleton.mp hx]
  intro z
  rw [z, hg] at e3
  have e3 : zs = c.map V.int := by
    have := Option.some.inj e3
    exact HO.lst.inj this
  exact ne c (List.mem_of_getElem? e) (hz.refs e3)
theorem HRs.perm {H : Hp} {us : List V} {xss : List (List Int)} (h : HRs H [] us xss) {pm : List Nat} (hp : pm.Perm (List.range us.length)) : HRs H [] (pm.map fun i => us.getD i .non) (pm.map fun i => xss.getD i []) ∧ (pm.map fun i => xss.getD i []).Perm xss := by
  have lt : ∀ i ∈ pm, i < us.length := fun i hi => List.mem_range.mp (hp.mem_iff.mp hi)
  refine ⟨⟨by rw [List.length_map, List.length_map], fun k r e => ?_⟩, ?_⟩
  · rw [List.getElem?_map] at e
    obtain ⟨i, hi, rfl⟩ := Option.map_eq_some_iff.mp e
    have il := lt i (List.mem_of_getElem? hi)
    have e1 : xss[i]? = some (xss[i]'(by rw [← h.len]; exact il)) := List.getElem?_eq_getElem _
    obtain ⟨p, e2, e3, e4⟩ := h.at_ i _ e1
    refine ⟨p, by rw [List.getElem?_map, hi]; show some (us.getD i .non) = _; rw [List.getD_eq_getElem?_getD, e2]; rfl, ?_, e4⟩
    rw [List.getD_eq_getElem?_getD, e1]
    exact e3
  · have h1 := hp.map fun i => xss.getD i []
    have h2 : ((List.range us.length).map fun i => xss.getD i []) = xss := by
      apply List.ext_getElem?
      intro i
      rw [List.getElem?_map, h.len]
      by_cases hi : i < xss.length
      · rw [List.getElem?_range hi, List.getElem?_eq_getElem hi]
        show some (xss.getD i []) = _
        rw [List.getD_eq_getElem?_getD, List.getElem?_eq_getElem hi]
        rfl
      · rw [List.getElem?_eq_none (by rw [List.length_range]; omega), List.getElem?_eq_none (by omega)]
        rfl
    rwa [h2] at h1
def eR (H : Hp) (v : V) (xss : List (List Int)) : Prop := ∃ l us, v = .ref l ∧ H l = some (.lst us) ∧ HRs H [] us xss
theorem eR.same {H H' : Hp} {v : V} {xss : List (List Int)} (h : eR H v xss) (s : Same H H') : eR H' v xss := by
  obtain ⟨l, us, e, h1, h2⟩ := h
  exact ⟨l, us, e, s _ _ h1, h2.same s⟩
theorem eR.ll {H : Hp} {l : Addr} {xss : List (List Int)} (h : eR H (.ref l) xss) : LL H l xss := by
  obtain ⟨l', us, e, h1, h2⟩ := h
  cases e
  refine ⟨us, h1, h2.len, fun k c hc => ?_⟩
  obtain ⟨p, e1, e2, _⟩ := h2.at_ k c hc
  refine ⟨p, e1, fun z => ?_, e2⟩
  rw [z, h1] at e2
  have e2 : us = c.map V.int := HO.lst.inj (Option.some.inj e2)
  rw [h2.refs e2] at e2
  rw [e2] at e1
  cases e1
end L2
set_option Elab.async false
set_option linter.all false
set_option maxRecDepth 100000
set_option maxHeartbeats 1000000
namespace L2
open PySem PySem.Spec PyProof.Rows PySem.W
section
variable {prog : Program} {w : World} {A : Around} {E : Value → Shared → Prop} {κ : SortKind} {it : Array Keyed} {vs : List Value} {s : Shared}
variable {xss : List (List Int)} {a : Addr}
end
end L2
set_option Elab.async false
set_option linter.all false
set_option maxRecDepth 100000
set_option maxHeartbeats 1000000
namespace L2
open PySem PySem.Spec PyProof.Rows
theorem no_attr {prog : Program} {w : World} {A : Around} {E : Value → Shared → Prop} {s : Shared} {a : Addr} {us : List Value} {c : Nat} {name : Str} {Q : Option Value → Shared → Prop} (ho : s.heap.get? a = some (lsO1 us c none #[])) (miss : typeLookup (.type "list") name = pure none) (nn : (["__module__", "__name__", "__qualname__", "__doc__", "__annotations__"] : List Str).contains name = false) (hA : A.handled = none) (hz : name.length + 100 ≤ sizeLine)
    (q : ∀ h' tk, (∀ b o, s.heap.get? b = some o → h'.get? b = some o) → Q none { s with heap := h', toks := tk }) : wpAny (model prog w) A (getAttr? (.ref a) name) Q E s := by
  unfold lsO1 at ho
  obtain ⟨hp, g, d, tk, os⟩ := s
  have tl : ∀ tk', (⟨hp, g, d, tk', os⟩ : Shared).TypeIs (.ref a) "list" := fun _ => ⟨_, ho, rfl⟩
  have k1 := sub_AttributeError
  have k3 := F.slot_list_getattribute.lookup
  have k4 := F.slot_list_getattribute.bind (.ref a)
  have k5 := am_list_getattr_none
  have key : ∀ (R : Value → Shared → Prop) (E' : Value → Shared → Prop), (∀ h' tk' e, Heap.NewAttrErr hp h' e (.ref a) name → E' (.ref e) ⟨h', g, d, tk', os⟩) → wpAny (model prog w) A (call (.builtin "list.__getattribute__") [.ref a, .str name tk]) R E' ⟨hp, g, d, tk + 1, os⟩ := fun R E' hE => by
    refine call_meets F.slot_list_getattribute (tl _) am_entry_list_getattribute (F.args_list_getattribute_2 _ _) (meets_getattribute_miss_list a us.toArray c #[] name _ miss nn hz) ⟨ho, hA, fun h' tk' e hx' => hE h' tk' e hx'⟩
  unfold getAttr? getAttrBy? getAttrBy
  repeat (any_goals (first | assumption | exact tl _ | (refine key _ _ fun h' tk' e hx' => ?_) | wp_step))
  obtain ⟨t', u', he⟩ := hx'.there
  repeat (any_goals (first | assumption | wp_step))
  exact q _ _ hx'.keeps
end L2
set_option Elab.async false
set_option linter.all false
set_option maxRecDepth 100000
set_option maxHeartbeats 1000000
namespace L2
open PySem PySem.Spec PyProof.Rows
theorem plain_dul : plainId "dict.update.loop" = true := by decide +kernel
theorem entry_dul : entryFor table "dict.update.loop" = some Builtin.«dict.update.loop» := entryFor_of_tree (by kernel_rfl)
section
variable {prog : Program} {w : World} {A : Around} {E : Value → Shared → Prop}
structure PrAt (h : Heap) (D it : Addr) (u : Value) (p : Key × Value) : Prop where
  ex : ∃ b key, u = .ref b ∧ b ≠ D ∧ b ≠ it ∧ IsTup h b #[key, p.2] ∧ keyIs p.1 key = true
theorem pairs_loop {D it l : Addr} {its : List Value} {ps : List (Key × Value)} (hh : A.handled = none) (d1 : D ≠ it) (d2 : l ≠ D) (d3 : l ≠ it) (hl : its.length = ps.length) (hz : ps.length ≤ 1000) (nd : (ps.map (·.1)).Nodup) {R : Value → Shared → Prop} :
    ∀ (m k : Nat) (s : Shared), ps.length = k + m → s.heap.DictOf (mixKind prog w) D (ps.take k) → s.heap.IsListIter it l k → s.heap.IsList l its.toArray → (∀ (j : Nat) u p, its[j]? = some u → ps[j]? = some p → PrAt s.heap D it u p) →
      (∀ h' tk, h'.DictOf (mixKind prog w) D ps → (∀ b o, b ≠ D → b ≠ it → s.heap.get? b = some o → h'.get? b = some o) → R .none { s with heap := h', toks := tk }) →
      codeAny (model prog w) A (.builtin "dict.update.loop" ⟨[.ref D, .ref it, rawInt k, .none], []⟩) (wants R E) s
  | 0, k, s, hk, hd, hi, hL, hp, q => by
    refine codeAny_builtin entry_dul ?_
    rw [Around.under_plainId plain_dul _]
    unfold Builtin.«dict.update.loop»
    refine wpAny_bind (wpAny_pyNext_list_end hh hi hL (by simp; omega) fun h' eb => ?_)
    show wpAny _ _ (Builtin.Dict.addKeywords D [] >>= _) _ _ _
    refine wpAny_bind (wpAny_pure (wpAny_pure ?_))
    rw [List.take_of_length_le (by omega)] at hd
    obtain ⟨o, es, ep, ho, rest⟩ := hd
    exact q h' _ ⟨o, es, ep, eb D _ d1 ho, rest⟩ fun b o _ b2 e => eb b o b2 e
  | m + 1, k, s, hk, hd, hi, hL, hp, q => by
    have hkl : k < its.length := by omega
    have hkp : k < ps.length := by omega
    obtain ⟨b, key, e1, bd, bi, ⟨o, hb, hc, c, hdt⟩, hkey⟩ := (hp k _ _ (List.getElem?_eq_getElem hkl) (List.getElem?_eq_getElem hkp)).ex
    refine codeAny_builtin entry_dul ?_
    rw [Around.under_plainId plain_dul _]
    unfold Builtin.«dict.update.loop»
    refine wpAny_bind (wpAny_pyNext_list_item hi hL (x := its[k]) (by simp [hkl]) fun h' hi' sb => ?_)
    have hb' : h'.get? b = some o := (sb.2 b bi).trans hb
    rw [e1]
    refine wpAny_bind (wpAny_holding (wpAny_bind (wpAny_tryCatch ?_)))
    unfold Builtin.Dict.pairItems
    refine wpAny_bind (wpAny_typeOf (T := "tuple") ⟨_, hb', hc⟩ ?_)
    rw [if_pos (by decide)]
    refine wpAny_bind (wpAny_seqItems hb' hdt (wpAny_pure ?_))
    have hd' : h'.DictOf (mixKind prog w) D (ps.take k) := by
      obtain ⟨o, es, ep, ho, rest⟩ := hd
      exact ⟨o, es, ep, (sb.2 D d1).trans ho, rest⟩
    show wpAny _ _ (holding [key, ps[k].2] (dictSet D key ps[k].2)) _ _ _
    refine wpAny_holding (wpAny_dictSet_pairs (knd := mixKind prog w) (k := ps[k].1) hkey hd' (fun h2 hd2 sb2 => ?_) (le_size (by rw [List.length_take]; omega)))
    have est : stored (ps.take k) ps[k].1 ps[k].2 = ps.take (k + 1) := by
      have nk : (ps.take k).any (fun kv => kv.1 = ps[k].1) = false := by
        rw [List.any_eq_false]
        intro kv hm he
        obtain ⟨j, hj, e⟩ := List.mem_iff_getElem.mp hm
        rw [List.length_take] at hj
        have hjk : j < k := by omega
        have e' : ps[j].1 = ps[k].1 := by
          rw [List.getElem_take] at e
          rw [e]
          exact of_decide_eq_true he
        exact List.pairwise_iff_getElem.mp nd j k (by rw [List.length_map]; omega) (by rw [List.length_map]; omega) hjk (by simpa using e')
      unfold stored
      rw [nk, if_neg (by decide), List.take_succ, List.getElem?_eq_getElem hkp]
      rfl
    rw [est] at hd2
    refine wpAny_pure ⟨plainId_quiet plain_dul _, ?_⟩
    rw [show ((k : Nat) : Int) + 1 = ((k + 1 : Nat) : Int) by omega]
    have keep : ∀ b o, b ≠ D → b ≠ it → s.heap.get? b = some o → h2.get? b = some o := fun b o n1 n2 e => (sb2.2 b n1).trans ((sb.2 b n2).trans e)
    refine pairs_loop hh d1 d2 d3 hl hz nd m (k + 1) _ (by omega) hd2 (hi'.at fun o e => (sb2.2 _ d1.symm).trans e) (hL.at fun o e => keep _ o d2 d3 e) (fun j u p h1 h2' => ?_) fun h3 tk hd3 k3 => q h3 tk hd3 fun b o n1 n2 e => k3 b o n1 n2 (keep b o n1 n2 e)
    obtain ⟨b', key', f1, f2, f3, ⟨o', f4, f6⟩, f5⟩ := (hp j u p h1 h2').ex
    exact ⟨b', key', f1, f2, f3, ⟨o', keep _ _ f2 f3 f4, f6⟩, f5⟩
theorem keys_miss : typeLookup (.type "list") "keys" = pure none := by rw [typeLookup_type, builtinLookup_eq_fast]; kernel_rfl
theorem pairs_call {s : Shared} {l : Addr} {us : List Value} {c : Nat} {ps : List (Key × Value)} {Q : Value → Shared → Prop} (hh : A.handled = none) (ho : s.heap.get? l = some (lsO1 us c none #[])) (hl : us.length = ps.length) (hz : ps.length ≤ 1000) (nd : (ps.map (·.1)).Nodup) (hp : ∀ (j : Nat) u p, us[j]? = some u → ps[j]? = some p → ∃ b key, u = .ref b ∧ IsTup s.heap b #[key, p.2] ∧ keyIs p.1 key = true)
    (q : ∀ h' tk, h'.DictOf (mixKind prog w) s.heap.objs.size ps → (∀ b o, s.heap.get? b = some o → h'.get? b = some o) → Q (.ref s.heap.objs.size) { s with heap := h', toks := tk }) :
    wpAny (model prog w) A (call (.type "dict") [.ref l]) Q E s := by
  refine callType_codes (Q₁ := fun obj s₁ => obj = .ref s.heap.objs.size ∧ s₁ = { s with heap := s.heap.push { cls := .type "dict", data := .dict #[] } }) F.kt_called_dict (F.kt_typeCall_dict_1 _) F.entry_dict_init (kt_code_dict_new _ ⟨rfl, rfl⟩) ?_
  rintro obj s₁ ⟨rfl, rfl⟩
  have hnew : (s.heap.push { cls := .type "dict", data := .dict #[] }).DictOf (mixKind prog w) s.heap.objs.size [] := Heap.DictOf.new s.heap
  have k0 : ∀ b o, s.heap.get? b = some o → (s.heap.push { cls := .type "dict", data := .dict #[] }).get? b = some o := fun b o e => Heap.get?_push_of_some _ e
  have sz0 : (s.heap.push { cls := .type "dict", data := .dict #[] }).objs.size = s.heap.objs.size + 1 := Heap.size_push _ _
  generalize s.heap.push { cls := .type "dict", data := .dict #[] } = g at hnew k0 sz0
  refine ⟨hnew.typeIs, F.args_dict_init_2 _ _, ?_⟩
  unfold Builtin.«dict.__init__»
  refine wpAny_bind ?_
  unfold Builtin.Dict.selfAndRest
  refine wpAny_bind (wpAny_notOrdered_dict hnew.typeIs ?_)
  show wpAny _ _ (pure (s.heap.objs.size, [Value.ref l])) _ _ _
  refine wpAny_pure ?_
  show wpAny _ _ (Builtin.Dict.updateFrom "dict.__init__" s.heap.objs.size (.ref l) [] .none) _ _ _
  unfold Builtin.Dict.updateFrom
  have ho1 := k0 _ _ ho
  refine wpAny_bind (wpAny_typeOf (T := "list") ⟨_, ho1, rfl⟩ ?_)
  rw [if_pos (by decide)]
  refine wpAny_bind (no_attr ho1 keys_miss (by decide) hh (by decide) fun h1 tk1 k1 => ?_)
  rw [if_pos (by rfl)]
  refine wpAny_bind (wpAny_rule ?_)
  have ho2 := k1 _ _ ho1
  refine wpAny_bind (wpAny_pyIter_list (l := l) (items := us.toArray) ⟨_, ho2, rfl, _, rfl⟩ ?_)
  have k2 : ∀ b o, h1.get? b = some o → (h1.push { cls := .type "list_iterator", data := .fields #[.ref l, .int 0 0] }).get? b = some o := fun b o e => Heap.get?_push_of_some _ e
  have hit : (h1.push { cls := .type "list_iterator", data := .fields #[.ref l, .int 0 0] }).IsListIter h1.objs.size l 0 := ⟨_, Heap.get?_push_size _ rfl, rfl, rfl⟩
  have old : ∀ b o, s.heap.get? b = some o → (h1.push { cls := .type "list_iterator", data := .fields #[.ref l, .int 0 0] }).get? b = some o := fun b o e => k2 b o (k1 b o (k0 b o e))
  have kD : ∀ o, g.get? s.heap.objs.size = some o → (h1.push { cls := .type "list_iterator", data := .fields #[.ref l, .int 0 0] }).get? s.heap.objs.size = some o := fun o e => k2 _ o (k1 _ o e)
  have lD : s.heap.objs.size < h1.objs.size := by
    obtain ⟨o, _, _, e, _⟩ := hnew
    exact Heap.lt_size (k1 _ o e)
  have lo : ∀ b o, s.heap.get? b = some o → b < s.heap.objs.size := fun b o e => Heap.lt_size e
  have ll := lo _ _ ho
  refine wpAny_pure ⟨plainId_quiet plain_dul _, ?_⟩
  have hL3 : (h1.push { cls := .type "list_iterator", data := .fields #[.ref l, .int 0 0] }).IsList l us.toArray := ⟨_, old _ _ ho, rfl, _, rfl⟩
  refine pairs_loop (A := A.in1) (prog := prog) (w := w) (E := E) (R := fun r s₂ => r = Value.none ∧ Q (.ref s.heap.objs.size) s₂) hh (D := s.heap.objs.size) (it := h1.objs.size) (l := l) (its := us) (ps := ps) (Nat.ne_of_lt lD) (Nat.ne_of_lt ll) (Nat.ne_of_lt (Nat.lt_trans ll lD)) hl hz nd ps.length 0 { s with heap := h1.push { cls := .type "list_iterator", data := .fields #[.ref l, .int 0 0] }, toks := tk1 } (by omega) ?_ hit hL3 (fun j u p e1 e2 => ?_) fun h' tk hd kk => ⟨rfl, q h' tk hd fun b o e => ?_⟩
  · obtain ⟨o, es, ep, e, rest⟩ := hnew
    exact ⟨o, es, ep, kD o e, rest⟩
  · obtain ⟨b, key, f1, ⟨o, f2, f3⟩, f4⟩ := hp j u p e1 e2
    have lb := lo _ _ f2
    exact ⟨b, key, f1, Nat.ne_of_lt lb, Nat.ne_of_lt (Nat.lt_trans lb lD), ⟨o, old _ _ f2, f3⟩, f4⟩
  · have lb := lo _ _ e
    exact kk b o (Nat.ne_of_lt lb) (Nat.ne_of_lt (Nat.lt_trans lb lD)) (old b o e)
end
def PrsD (H : Hp) (us : List V) (kvs : List (Key × V)) : Prop := us.length = kvs.length ∧ ∀ (j : Nat) u kv, us[j]? = some u → kvs[j]? = some kv → ∃ b, u = .ref b ∧ H b = some (.tup [kV kv.1, kv.2])
def rDictP : List V → Hp → VK → Prop := fun xs H Q => ∃ l us kvs, xs = [.ref l] ∧ H l = some (.lst us) ∧ PrsD H us kvs ∧ (kvs.map (·.1)).Nodup ∧ kvs.length ≤ 1000 ∧ ∀ p, H p = none → Q (.ref p) (upd H p (.dK kvs))
theorem prs_vals {P : Program} {w : World} {H : Hp} {hp : Heap} (ok : HOk P w H hp) : ∀ {us : List V} {its : List Value} {kvs : List (Key × V)}, Vals us its → PrsD H us kvs → ∃ ps : List (Key × Value), KV kvs ps ∧ ∀ (j : Nat) u p, its[j]? = some u → ps[j]? = some p → ∃ b key, u = .ref b ∧ IsTup hp b #[key, p.2] ∧ keyIs p.1 key = true
  | [], _, kvs, .nil, h => by
    have : kvs = [] := List.length_eq_zero_iff.mp h.1.symm
    subst this
    exact ⟨[], .nil, fun j u p e => by simp at e⟩
  | x :: xs, _, [], .cons r t, h => by
    have := h.1
    simp at this
  | x :: xs, _, kv :: kvs, .cons r t, h => by
    obtain ⟨ps, h1, h2⟩ := prs_vals ok (kvs := kvs) t ⟨by have := h.1; simpa using this, fun j u kv e1 e2 => h.2 (j + 1) u kv (by simpa using e1) (by simpa using e2)⟩
    obtain ⟨b, e, hb⟩ := h.2 0 x kv rfl rfl
    subst e
    cases r
    obtain ⟨_, its, rv, ht⟩ := (show ObjOk P w H hp b (.tup [kV kv.1, kv.2]) from ok b _ hb)
    cases rv with
    | cons r1 t1 =>
      cases t1 with
      | cons r2 t2 =>
        cases t2
        rename_i k1 v1
        refine ⟨(kv.1, v1) :: ps, .cons ⟨rfl, r2⟩ h1, fun j u p e1 e2 => ?_⟩
        cases j with
        | zero =>
          simp at e1 e2
          subst e1 e2
          exact ⟨b, k1, rfl, ht, kV_is (P := P) (w := w) r1⟩
        | succ j => exact h2 j u p (by simpa using e1) (by simpa using e2)
theorem call_dictP {X : Cx} {k : Nat} (hr : Room k X.A) : CallR X (.type "dict") rDictP := by
  intro pins s σ H xs us Q I rv h
  obtain ⟨l, vs, kvs, rfl, hl, hp, nd, hz, q⟩ := h
  cases rv with
  | cons r t =>
    cases t
    cases r
    obtain ⟨z, its, n, rv, ho⟩ := (show ObjOk X.prog X.w H s.heap l (.lst vs) from I.hok l _ hl)
    obtain ⟨ps, h1, h2⟩ := prs_vals I.hok rv hp
    have e1 : kvs.length = ps.length := Paired.length h1
    have e2 : kvs.map (·.1) = ps.map (·.1) := by
      clear h2 e1 hz nd q hp
      induction h1 with
      | nil => rfl
      | cons a _ ih => rw [List.map_cons, List.map_cons, a.1, ih]
    refine pairs_call (us := its) (c := n) hr.hd ho (by rw [← rv.length, hp.1, e1]) (by rw [← e1]; exact hz) (by rw [← e2]; exact nd) h2 fun h' tk hd kk => ?_
    exact ⟨.ref _, _, I.laid (a := s.heap.objs.size) (o := .dK kvs) kk (Nat.le_refl _) (dk_new (le_size hz) (beq_eq_false_iff_ne.mpr (Ne.symm (Nat.ne_of_lt I.big))) h1 hd), rfl, q _ (I.hok.fresh (Nat.le_refl _))⟩
end L2
set_option Elab.async false
set_option linter.all false
set_option maxRecDepth 100000
set_option maxHeartbeats 1000000
namespace L2
open PySem PySem.Spec PyProof.Rows
inductive Tg where
  | f (x : V)
  | l (xs : List Tg)
  | t (xs : List Tg)
  | d (xs : List Tg)
def dkFrom : Nat → List V → List (Key × V)
  | _, [] => []
  | n, x :: xs => (.inl n, x) :: dkFrom (n + 1) xs
theorem dkFrom_len : ∀ {xs : List V} {n : Nat}, (dkFrom n xs).length = xs.length
  | [], _ => rfl
  | x :: xs, n => by rw [dkFrom, List.length_cons, List.length_cons, dkFrom_len]
theorem dkFrom_get : ∀ {xs : List V} {n j : Nat}, (dkFrom n xs)[j]? = xs[j]?.map fun x => ((.inl ((n + j : Nat) : Int) : Key), x)
  | [], n, j => by rw [dkFrom]; simp
  | x :: xs, n, 0 => by rw [dkFrom]; simp
  | x :: xs, n, j + 1 => by
    rw [dkFrom, List.getElem?_cons_succ, dkFrom_get, List.getElem?_cons_succ, show n + 1 + j = n + (j + 1) by omega]
theorem dkFrom_val : ∀ {xs : List V} {n j : Nat}, valV (dkFrom n xs) (.inl ((n + j : Nat) : Int)) = xs[j]?
  | [], n, j => by rw [dkFrom]; simp [valV]
  | x :: xs, n, 0 => by rw [dkFrom]; simp [valV]
  | x :: xs, n, j + 1 => by
    have ih := dkFrom_val (xs := xs) (n := n + 1) (j := j)
    rw [dkFrom, List.getElem?_cons_succ, ← ih]
    unfold valV
    rw [List.find?_cons, show (decide ((Sum.inl (n : Int) : Key) = .inl ((n + (j + 1) : Nat) : Int))) = false by
      rw [decide_eq_false_iff_not]
      intro z
      have := Sum.inl.inj z
      omega, show n + (j + 1) = n + 1 + j by omega]
theorem dkFrom_nd : ∀ {xs : List V} {n : Nat}, ((dkFrom n xs).map (·.1)).Nodup := by
  intro xs n
  rw [List.Nodup, List.pairwise_iff_getElem]
  intro i j hi hj hij e
  rw [List.length_map] at hi hj
  have e1 := dkFrom_get (xs := xs) (n := n) (j := i)
  have e2 := dkFrom_get (xs := xs) (n := n) (j := j)
  rw [List.getElem?_eq_getElem hi] at e1
  rw [List.getElem?_eq_getElem hj] at e2
  rw [dkFrom_len] at hi hj
  rw [List.getElem?_eq_getElem hi, Option.map_some] at e1
  rw [List.getElem?_eq_getElem hj, Option.map_some] at e2
  rw [List.getElem_map, List.getElem_map, Option.some.inj e1, Option.some.inj e2] at e
  have := Sum.inl.inj e
  omega
mutual
def IsG (H : Hp) (ex : Addr → Prop) (x : V) : Tg → Prop
  | .f y => x = y ∧ flatV y = true
  | .l ts => ∃ p xs, x = .ref p ∧ H p = some (.lst xs) ∧ ¬ ex p ∧ IsGL H ex xs ts
  | .t ts => ∃ p xs, x = .ref p ∧ H p = some (.tup xs) ∧ ¬ ex p ∧ IsGL H ex xs ts
  | .d ts => ∃ p xs, x = .ref p ∧ H p = some (.dK (dkFrom 0 xs)) ∧ ¬ ex p ∧ IsGL H ex xs ts
def IsGL (H : Hp) (ex : Addr → Prop) (xs : List V) : List Tg → Prop
  | [] => xs = []
  | g :: gs => ∃ x r, xs = x :: r ∧ IsG H ex x g ∧ IsGL H ex r gs
end
mutual
def depG : Tg → Nat
  | .f _ => 0
  | .l xs => depGL xs + 1
  | .t xs => depGL xs + 1
  | .d xs => depGL xs + 1
def depGL : List Tg → Nat
  | [] => 0
  | d :: ds => max (depG d) (depGL ds)
end
mutual
theorem IsG.keep {H H' : Hp} {ex ex' : Addr → Prop} (k : ∀ b o, ¬ ex b → H b = some o → H' b = some o ∧ ¬ ex' b) : ∀ (g : Tg) {x : V}, IsG H ex x g → IsG H' ex' x g
  | .f y, x, h => by rw [IsG] at h ⊢; exact h
  | .l ts, x, h => by
    rw [IsG] at h ⊢
    obtain ⟨p, xs, e, h1, n, h2⟩ := h
    exact ⟨p, xs, e, (k p _ n h1).1, (k p _ n h1).2, IsGL.keep k ts h2⟩
  | .t ts, x, h => by
    rw [IsG] at h ⊢
    obtain ⟨p, xs, e, h1, n, h2⟩ := h
    exact ⟨p, xs, e, (k p _ n h1).1, (k p _ n h1).2, IsGL.keep k ts h2⟩
  | .d ts, x, h => by
    rw [IsG] at h ⊢
    obtain ⟨p, xs, e, h1, n, h2⟩ := h
    exact ⟨p, xs, e, (k p _ n h1).1, (k p _ n h1).2, IsGL.keep k ts h2⟩
theorem IsGL.keep {H H' : Hp} {ex ex' : Addr → Prop} (k : ∀ b o, ¬ ex b → H b = some o → H' b = some o ∧ ¬ ex' b) : ∀ (gs : List Tg) {xs : List V}, IsGL H ex xs gs → IsGL H' ex' xs gs
  | [], xs, h => by rw [IsGL] at h ⊢; exact h
  | g :: gs, xs, h => by
    rw [IsGL] at h ⊢
    obtain ⟨x, r, e, h1, h2⟩ := h
    exact ⟨x, r, e, IsG.keep k g h1, IsGL.keep k gs h2⟩
end
theorem IsGL.len {H : Hp} {ex : Addr → Prop} : ∀ {gs : List Tg} {xs : List V}, IsGL H ex xs gs → xs.length = gs.length
  | [], xs, h => by rw [IsGL] at h; subst h; rfl
  | d :: ds, xs, h => by
    rw [IsGL] at h
    obtain ⟨x, r, rfl, _, h⟩ := h
    rw [List.length_cons, List.length_cons, IsGL.len h]
theorem IsGL.get {H : Hp} {ex : Addr → Prop} : ∀ {gs : List Tg} {xs : List V} {j : Nat} {x : V}, IsGL H ex xs gs → xs[j]? = some x → ∃ g, gs[j]? = some g ∧ IsG H ex x g
  | [], xs, j, x, h, e => by rw [IsGL] at h; subst h; simp at e
  | d :: ds, xs, j, x, h, e => by
    rw [IsGL] at h
    obtain ⟨y, r, rfl, hy, h⟩ := h
    cases j with
    | zero => simp at e; subst e; exact ⟨d, rfl, hy⟩
    | succ j => exact IsGL.get (j := j) h (by simpa using e)
theorem IsGL.snoc {H : Hp} {ex : Addr → Prop} {g : Tg} {x : V} (hx : IsG H ex x g) : ∀ {gs : List Tg} {xs : List V}, IsGL H ex xs gs → IsGL H ex (xs ++ [x]) (gs ++ [g])
  | [], xs, h => by
    rw [IsGL] at h; subst h
    show IsGL H ex [x] [g]
    rw [IsGL]
    exact ⟨x, [], rfl, hx, by rw [IsGL]⟩
  | d :: ds, xs, h => by
    rw [IsGL] at h
    obtain ⟨y, r, rfl, hy, h⟩ := h
    show IsGL H ex (y :: (r ++ [x])) (d :: (ds ++ [g]))
    rw [IsGL]
    exact ⟨y, _, rfl, hy, IsGL.snoc hx h⟩
theorem depGL_mem {ds : List Tg} : ∀ {d : Tg} {j : Nat}, ds[j]? = some d → depG d ≤ depGL ds := by
  induction ds with
  | nil => intro d j e; simp at e
  | cons a r ih =>
    intro d j e
    rw [depGL]
    cases j with
    | zero => simp at e; subst e; omega
    | succ j => have := ih (d := d) (j := j) (by simpa using e); omega
theorem eqV_refl {y : V} (h : flatV y = true) : eqV y y = true := by cases y <;> first | (simp [eqV]; done) | (exact absurd h (by decide)) | (cases h)
theorem hits_all {A : Around} {s : Shared} {kb : List (Key × Value)} : ∀ {ka : List (Key × Value)}, (∀ kv ∈ ka, ∃ y, valueAt kb kv.1 = some y ∧ SeqAt.EqAt A s kv.2 y true) → PySem.W.KeqHits A s kb ka true
  | [], _ => .nil
  | (k, v) :: r, h => by
    obtain ⟨y, h1, h2⟩ := h (k, v) (List.mem_cons_self ..)
    exact PySem.W.KeqHits.hit (e := true) (b := true) h1 h2 (hits_all fun kv hm => h kv (List.mem_cons_of_mem _ hm))
theorem kv_mem {kvs : List (Key × V)} {vs : List (Key × Value)} (h : KV kvs vs) : ∀ {kv : Key × Value}, kv ∈ vs → ∃ (j : Nat) (x : V), kvs[j]? = some (kv.1, x) ∧ RelV x kv.2 := by
  unfold KV at h
  induction h with
  | nil => intro kv hm; cases hm
  | @cons a b l1 l2 r t ih =>
    intro kv hm
    rcases List.mem_cons.mp hm with e | e
    · subst e
      exact ⟨0, a.2, by rw [← r.1]; rfl, r.2⟩
    · obtain ⟨j, x, h1, h2⟩ := ih e
      exact ⟨j + 1, x, by simpa using h1, h2⟩
theorem pairs_any {P P' : Program} {w w' : World} {es : List DictEntry} {ka : List (Key × Value)} (h : Pairs (mixKind P w) es ka) : Pairs (mixKind P' w') es ka := by
  induction h with
  | nil => exact .nil
  | cons a b _ ih => exact .cons a b ih
theorem pairs_mem {P : Program} {w : World} {es : List DictEntry} {ka : List (Key × Value)} (h : Pairs (mixKind P w) es ka) : ∀ {e : DictEntry}, e ∈ es → ∃ kv ∈ ka, keyIs kv.1 e.key = true := by
  induction h with
  | nil => intro e hm; cases hm
  | cons a b _ ih =>
    intro e hm
    rcases List.mem_cons.mp hm with z | z
    · subst z
      exact ⟨_, List.mem_cons_self .., a⟩
    · obtain ⟨kv, h1, h2⟩ := ih z
      exact ⟨kv, List.mem_cons_of_mem _ h1, h2⟩
theorem dict_any {P P' : Program} {w w' : World} {h : Heap} {p : Addr} {ka : List (Key × Value)} (d : h.DictOf (mixKind P w) p ka) (hi : ∀ kv ∈ ka, ∃ i, kv.1 = .inl i) : h.DictOf (mixKind P' w') p ka := by
  obtain ⟨o, es, ep, h1, h2, h3, hk, hp, hn⟩ := d
  refine ⟨o, es, ep, h1, h2, h3, fun e he => ?_, pairs_any hp, hn⟩
  obtain ⟨k, k1, k2⟩ := hk e he
  obtain ⟨kv, m1, m2⟩ := pairs_mem hp (Array.mem_toList_iff.mpr he)
  obtain ⟨i, ei⟩ := hi kv m1
  have := (mixKind P w).inj _ _ _ k1 m2
  rw [this, ei] at k1 k2
  exact ⟨.inl i, k1, k2⟩
theorem dk_ints {xs : List V} {ka : List (Key × Value)} (r : KV (dkFrom 0 xs) ka) : ∀ kv ∈ ka, ∃ i, kv.1 = .inl i := fun kv hm => by
  obtain ⟨j, x, e, _⟩ := kv_mem r hm
  rw [dkFrom_get] at e
  cases hx : xs[j]? with
  | none => rw [hx] at e; cases e
  | some x' =>
    rw [hx, Option.map_some] at e
    exact ⟨_, (congrArg Prod.fst (Option.some.inj e)).symm⟩
section
variable {X : Cx} {pins : List (Addr × Obj)} {σ : St} {H : Hp} {s : Shared}
theorem elG {n : Nat} {A : Around} {e1 e2 : Addr → Prop} (ih : ∀ (g : Tg) {A : Around} {x y : V} {u v : Value}, depG g ≤ n → A.units + n < cLine → IsG H e1 x g → IsG H e2 y g → RelV x u → RelV y v → SeqAt.EqAt A s u v true) (hu : A.units + (n + 1) < cLine)
    {gs : List Tg} {xs ys : List V} {its its' : List Value} (hd : depGL gs ≤ n) (hx : IsGL H e1 xs gs) (hy : IsGL H e2 ys gs) (rx : Vals xs its) (ry : Vals ys its') :
    ∀ j (h1 : j < its.toArray.size) (h2 : j < its'.toArray.size), SeqAt.EqAt A.in1 s its.toArray[j] its'.toArray[j] ((fun _ => true : Nat → Bool) j) := by
  intro j h1 h2
  have l1 := rx.length
  have l2 := ry.length
  have k1 : j < xs.length := by simpa [l1] using h1
  have k2 : j < ys.length := by simpa [l2] using h2
  obtain ⟨d, e1, q1⟩ := hx.get (List.getElem?_eq_getElem k1)
  obtain ⟨e, e2, q2⟩ := hy.get (List.getElem?_eq_getElem k2)
  rw [e1] at e2
  cases e2
  obtain ⟨u, hu', ru⟩ := rx.get (List.getElem?_eq_getElem k1)
  obtain ⟨v, hv', rv⟩ := ry.get (List.getElem?_eq_getElem k2)
  have f1 : its.toArray[j] = u := by
    have : its[j]? = some its.toArray[j] := by simp
    rw [hu'] at this
    exact (Option.some.inj this).symm
  have f2 : its'.toArray[j] = v := by
    have : its'[j]? = some its'.toArray[j] := by simp
    rw [hv'] at this
    exact (Option.some.inj this).symm
  rw [f1, f2]
  exact ih d (Nat.le_trans (depGL_mem e1) hd) (by rw [Around.in1_units]; omega) q1 q2 ru rv
theorem hitsG {n : Nat} {A : Around} {e1 e2 : Addr → Prop} (ih : ∀ (g : Tg) {A : Around} {x y : V} {u v : Value}, depG g ≤ n → A.units + n < cLine → IsG H e1 x g → IsG H e2 y g → RelV x u → RelV y v → SeqAt.EqAt A s u v true) (hu : A.units + (n + 1) < cLine)
    {gs : List Tg} {xs ys : List V} {ka kb : List (Key × Value)} (hd : depGL gs ≤ n) (hx : IsGL H e1 xs gs) (hy : IsGL H e2 ys gs) (rx : KV (dkFrom 0 xs) ka) (ry : KV (dkFrom 0 ys) kb) : PySem.W.KeqHits A.in1 s kb ka true := by
  refine hits_all fun kv hm => ?_
  obtain ⟨j, x, e1, r1⟩ := kv_mem rx hm
  rw [dkFrom_get] at e1
  cases hxj : xs[j]? with
  | none => rw [hxj] at e1; cases e1
  | some x' =>
    rw [hxj, Option.map_some] at e1
    have e1' := Option.some.inj e1
    have ek : kv.1 = .inl ((0 + j : Nat) : Int) := (congrArg Prod.fst e1').symm
    have ex : x' = x := congrArg Prod.snd e1'
    subst ex
    obtain ⟨g, g1, q1⟩ := hx.get hxj
    have k2 : j < ys.length := by
      rw [hy.len, ← hx.len]
      exact (List.getElem?_eq_some_iff.mp hxj).1
    obtain ⟨g', g2, q2⟩ := hy.get (List.getElem?_eq_getElem k2)
    rw [g1] at g2
    cases g2
    have rv := ry.val kv.1
    rw [ek, dkFrom_val, List.getElem?_eq_getElem k2] at rv
    rw [ek]
    cases hv : valueAt kb (.inl ((0 + j : Nat) : Int)) with
    | none => rw [hv] at rv; cases rv
    | some y =>
      rw [hv] at rv
      exact ⟨y, rfl, ih g (Nat.le_trans (depGL_mem g1) hd) (by rw [Around.in1_units]; omega) q1 q2 r1 rv⟩
theorem all_yes {n : Nat} : (List.range n).all (fun _ => true) = true := by simp
theorem eqG {e1 e2 : Addr → Prop} (I : Inv X pins σ H s) : ∀ (n : Nat) (g : Tg) {A : Around} {x y : V} {u v : Value}, depG g ≤ n → A.units + n < cLine → IsG H e1 x g → IsG H e2 y g → RelV x u → RelV y v → SeqAt.EqAt A s u v true
  | n, .f y', A, x, y, u, v, hn, hu, hx, hy, rx, ry => by
    rw [IsG] at hx hy
    obtain ⟨rfl, fx⟩ := hx
    obtain ⟨rfl, fy⟩ := hy
    have := eqAt_V (A := A) (s := s) rx ry fx fy
    rw [eqV_refl fx] at this
    exact this
  | 0, .l gs, A, x, y, u, v, hn, _, _, _, _, _ => by rw [depG] at hn; omega
  | 0, .t gs, A, x, y, u, v, hn, _, _, _, _, _ => by rw [depG] at hn; omega
  | 0, .d gs, A, x, y, u, v, hn, _, _, _, _, _ => by rw [depG] at hn; omega
  | n + 1, .l gs, A, x, y, u, v, hn, hu, hx, hy, rx, ry => by
    rw [depG] at hn
    rw [IsG] at hx hy
    obtain ⟨p, xs, rfl, h1, _, hx⟩ := hx
    obtain ⟨q, ys, rfl, h2, _, hy⟩ := hy
    cases rx
    cases ry
    obtain ⟨its, rv, pl, _⟩ := I.list (SqL.of h1)
    obtain ⟨its', rv', pl', _⟩ := I.list (SqL.of h2)
    have ez : its.toArray.size = its'.toArray.size := by rw [List.size_toArray, List.size_toArray, ← rv.length, ← rv'.length, hx.len, hy.len]
    by_cases hpq : p = q
    · subst hpq
      exact SeqAt.EqAt.same _
    refine SeqAt.EqAt.of_refs hpq ?_
    have := SeqAt.RcAt.lists pl.isList pl'.isList ez (by omega) (elG (eqG I n) hu (by omega) hx hy rv rv')
    rw [all_yes] at this
    exact this
  | n + 1, .t gs, A, x, y, u, v, hn, hu, hx, hy, rx, ry => by
    rw [depG] at hn
    rw [IsG] at hx hy
    obtain ⟨p, xs, rfl, h1, _, hx⟩ := hx
    obtain ⟨q, ys, rfl, h2, _, hy⟩ := hy
    cases rx
    cases ry
    obtain ⟨its, rv, pl, _⟩ := I.tuple (SqT.of h1)
    obtain ⟨its', rv', pl', _⟩ := I.tuple (SqT.of h2)
    have hl : s.heap.IsTuple p its.toArray := pl
    have hl' : s.heap.IsTuple q its'.toArray := pl'
    have ez : its.toArray.size = its'.toArray.size := by rw [List.size_toArray, List.size_toArray, ← rv.length, ← rv'.length, hx.len, hy.len]
    by_cases hpq : p = q
    · subst hpq
      exact SeqAt.EqAt.same _
    refine SeqAt.EqAt.of_refs hpq ?_
    have := SeqAt.RcAt.tuples hl hl' (by omega) (elG (eqG I n) hu (by omega) hx hy rv rv')
    rw [all_yes, ez, beq_self_eq_true] at this
    exact this
  | n + 1, .d gs, A, x, y, u, v, hn, hu, hx, hy, rx, ry => by
    rw [depG] at hn
    rw [IsG] at hx hy
    obtain ⟨p, xs, rfl, h1, _, hx⟩ := hx
    obtain ⟨q, ys, rfl, h2, _, hy⟩ := hy
    cases rx
    cases ry
    obtain ⟨_, s1, ka, ra, da⟩ := dk_of I.hok h1
    obtain ⟨_, s2, kb, rb, db⟩ := dk_of I.hok h2
    have ez : ka.length = kb.length := by rw [← Paired.length ra, ← Paired.length rb, dkFrom_len, dkFrom_len, hx.len, hy.len]
    by_cases hpq : p = q
    · subst hpq
      exact SeqAt.EqAt.same _
    refine SeqAt.EqAt.of_refs hpq fun prog w E Q hq => ?_
    have da' : s.heap.DictOf (mixKind prog w) p ka := dict_any da (dk_ints ra)
    have db' : s.heap.DictOf (mixKind prog w) q kb := dict_any db (dk_ints rb)
    refine PySem.W.keq_eq (knd := mixKind prog w) (r := true) s1 s2 da' db' (by omega) (fun _ => hitsG (eqG I n) hu (by omega) hx hy ra rb) ?_
    rw [ez, beq_self_eq_true]
    exact hq
def rNeG : R2 := fun x y H Q => ∃ g e1 e2, IsG H e1 x g ∧ IsG H e2 y g ∧ depG g ≤ 40 ∧ Q (.bl false) H
theorem op_neG {k : Nat} (hr : Room k X.A) : OpR X (compareOp .NotEq) rNeG := by
  intro pins s σ H x y v u Q I rx ry h
  obtain ⟨g, e1, e2, hx, hy, hd, q⟩ := h
  have hu := hr.units
  have hu' : X.A.units + (40 + 1) < cLine := by omega
  have fin : ∀ s', Inv X pins σ H s' → EP X pins σ Q (.bool false) s' := fun s' I' => ⟨.bl false, H, I', rfl, q⟩
  cases g with
  | f y' =>
    rw [IsG] at hx hy
    obtain ⟨e1, fx⟩ := hx
    obtain ⟨e2, fy⟩ := hy
    subst e1
    subst e2
    refine op_ne pins s σ H y y v u Q I rx ry ?_
    cases y <;> first | (exact ⟨rfl, by simpa [eqV] using q⟩) | (cases fx)
  | l gs =>
    rw [depG] at hd
    rw [IsG] at hx hy
    obtain ⟨p, xs, rfl, h1, _, hx⟩ := hx
    obtain ⟨p', ys, rfl, h2, _, hy⟩ := hy
    cases rx
    cases ry
    obtain ⟨its, rv, pl, _⟩ := I.list (SqL.of h1)
    obtain ⟨its', rv', pl', _⟩ := I.list (SqL.of h2)
    have ez : its.toArray.size = its'.toArray.size := by rw [List.size_toArray, List.size_toArray, ← rv.length, ← rv'.length, hx.len, hy.len]
    have := SeqAt.RcNeAt.lists pl.isList pl'.isList ez (by omega) (elG (eqG I 40) hu' (by omega) hx hy rv rv')
    rw [all_yes] at this
    exact this X.prog X.w X.xe _ (fin s I)
  | t gs =>
    rw [depG] at hd
    rw [IsG] at hx hy
    obtain ⟨p, xs, rfl, h1, _, hx⟩ := hx
    obtain ⟨p', ys, rfl, h2, _, hy⟩ := hy
    cases rx
    cases ry
    obtain ⟨its, rv, pl, _⟩ := I.tuple (SqT.of h1)
    obtain ⟨its', rv', pl', _⟩ := I.tuple (SqT.of h2)
    have hl : s.heap.IsTuple p its.toArray := pl
    have hl' : s.heap.IsTuple p' its'.toArray := pl'
    have ez : its.toArray.size = its'.toArray.size := by rw [List.size_toArray, List.size_toArray, ← rv.length, ← rv'.length, hx.len, hy.len]
    have := SeqAt.RcNeAt.tuples hl hl' (by omega) (elG (eqG I 40) hu' (by omega) hx hy rv rv')
    rw [all_yes, ez, beq_self_eq_true] at this
    exact this X.prog X.w X.xe _ (fin s I)
  | d gs =>
    rw [depG] at hd
    rw [IsG] at hx hy
    obtain ⟨p, xs, rfl, h1, _, hx⟩ := hx
    obtain ⟨p', ys, rfl, h2, _, hy⟩ := hy
    cases rx
    cases ry
    obtain ⟨_, s1, ka, ra, da⟩ := dk_of I.hok h1
    obtain ⟨_, s2, kb, rb, db⟩ := dk_of I.hok h2
    have ez : ka.length = kb.length := by rw [← Paired.length ra, ← Paired.length rb, dkFrom_len, dkFrom_len, hx.len, hy.len]
    refine PySem.W.keq_ne (knd := mixKind X.prog X.w) (r := true) s1 s2 da db (by omega) (fun _ => hitsG (eqG I 40) hu' (by omega) hx hy ra rb) ?_
    rw [ez, beq_self_eq_true]
    exact fin s I
end
def rNotI : R2 := fun x y H Q => ∃ c, y = .bl c ∧ ((∃ b, x = .bl b ∧ Q (.bl (!decide (b = c))) H) ∨ ∃ i, x = .int i ∧ Q (.bl true) H)
theorem op_notI {X : Cx} : OpR X (compareOp .IsNot) rNotI := by
  rintro pins s σ H x y v u Q I r1 r2 ⟨c, rfl, h⟩
  cases r2
  rcases h with ⟨b, rfl, q⟩ | ⟨i, rfl, q⟩
  · cases r1
    refine wpAny_isNot_plain rfl ⟨.bl _, H, I, ?_, q⟩
    cases b <;> cases c <;> rfl
  · obtain ⟨t, rfl⟩ := r1
    exact wpAny_isNot_plain rfl ⟨.bl true, H, I, rfl, q⟩
abbrev FSt := Int × Int × Int
def FeedX (H : Hp) (p : Addr) (s : FSt) : Prop := H p = some (.lst [.int s.1, .int s.2.1, .int s.2.2])
def GoodF (s : FSt) (c : Int) : Prop := 0 ≤ s.1 ∧ 0 ≤ s.2.1 ∧ s.2.1 < 2147483423 ∧ 0 ≤ s.2.2 ∧ s.2.2 ≤ c
theorem GoodF.mono {s : FSt} {c d : Int} (h : GoodF s c) (l : c ≤ d) : GoodF s d := ⟨h.1, h.2.1, h.2.2.1, h.2.2.2.1, Int.le_trans h.2.2.2.2 l⟩
def mx1 (d st : Int) : Int := (d + 40692 * st * st + 69621 * st) % 2147483647
def mx2 (m st : Int) : Int := (m * m + 39373 * m + st) % 2147483579
def mx3 (m : Int) : Int := (m * m + 16807 * m) % 2147483549
def tkS (m : Int) (s : FSt) : Int × FSt := if s.1 > 0 then (s.1 % m, (s.1 / m, s.2.1, s.2.2)) else (mx3 (mx2 (mx1 s.2.1 (s.2.2 + 1)) (s.2.2 + 1)) / 64 % m, (s.1, s.2.1, s.2.2 + 1))
def tk : Nat → Int → FSt → Int × FSt
  | 0, _, s => (0, s)
  | n + 1, m, s => if m > 10000000 then (((tk n (m / 1000000 + 1) s).1 * 1000000 + (tk n 1000000 (tk n (m / 1000000 + 1) s).2).1) % m, (tk n 1000000 (tk n (m / 1000000 + 1) s).2).2) else tkS m s
theorem tkS_ok {m c : Int} {s : FSt} (hm : 1 ≤ m) (h : GoodF s c) : 0 ≤ (tkS m s).1 ∧ (tkS m s).1 < m ∧ GoodF (tkS m s).2 (c + 1) := by
  obtain ⟨h1, h2, h3, h4, h5⟩ := h
  unfold tkS
  split
  · exact ⟨(modq (by omega)).1, (modq (by omega)).2, divq h1 (by omega), h2, h3, h4, by show s.2.2 ≤ c + 1; omega⟩
  · exact ⟨(modq (by omega)).1, (modq (by omega)).2, h1, h2, h3, by show 0 ≤ s.2.2 + 1; omega, by show s.2.2 + 1 ≤ c + 1; omega⟩
theorem tk_ok : ∀ (n : Nat) {m c : Int} {s : FSt}, 1 ≤ m → GoodF s c → 0 ≤ (tk n m s).1 ∧ (tk n m s).1 < m ∧ GoodF (tk n m s).2 (c + 2 ^ n)
  | 0, m, c, s, hm, h => ⟨Int.le_refl 0, by show (0 : Int) < m; omega, h.mono (by show c ≤ c + 2 ^ 0; omega)⟩
  | n + 1, m, c, s, hm, h => by
    have t2 := two_pow (n := n)
    rw [tk]
    split
    · have a := tk_ok n (m := m / 1000000 + 1) (by omega) h
      have b := tk_ok n (m := 1000000) (by omega) a.2.2
      exact ⟨(modq (by omega)).1, (modq (by omega)).2, b.2.2.mono (by omega)⟩
    · have a := tkS_ok hm h
      exact ⟨a.1, a.2.1, a.2.2.mono (by omega)⟩
def spTakeXN (n : Nat) : Sp := fun vs H Q _ => ∃ (p : Addr) (m c : Int) (s : FSt), vs = [.ref p, .int m] ∧ FeedX H p s ∧ GoodF s c ∧ c ≤ 1000000000 - 2 ^ n ∧ 0 < n ∧ n ≤ 10 ∧ 1 ≤ m ∧ m ≤ lim n ∧
  ∀ H', FeedX H' p (tk n m s).2 → Chg p H H' → Q (.int (tk n m s).1) H'
def spTakeX : Sp := fun vs H Q _ => ∃ (p : Addr) (m c : Int) (s : FSt), vs = [.ref p, .int m] ∧ FeedX H p s ∧ GoodF s c ∧ c ≤ 900000000 ∧ 1 ≤ m ∧ m ≤ 10 ^ 60 ∧
  ∀ H', FeedX H' p (tk 10 m s).2 → Chg p H H' → Q (.int (tk 10 m s).1) H'
def abI (x : Int) : Int := if x < 0 then -x else x
def fdF (ns : List Int) (k : Int) : FSt := (if abI (ns.getD k.toNat 0) < 1000000000000000000 then 0 else abI (ns.getD k.toNat 0), (ns.getD k.toNat 0 % 2147483423 * 48271 + 6151 * k + 17) % 2147483423, 0)
def pk (xs : List Int) (i : Int) : Int := xs.getD i.toNat 0
def pkV (xs : List V) (i : Int) : V := xs.getD i.toNat .non
def txs : List V := [.str (Str.ofString ""), .str (Str.ofString "0"), .str (Str.ofString "7"), .str (Str.ofString "-1"), .str (Str.ofString "True"), .str (Str.ofString "None")]
def flt (way : Int) (s : FSt) : Tg × FSt :=
  if way < 3 then (.f (.int (tk 10 (pk [3, 1000, 10 ^ 60] way) s).1), (tk 10 (pk [3, 1000, 10 ^ 60] way) s).2)
  else if way < 5 then (.f (.int (-(tk 10 (pk [9, 10 ^ 60] (way - 3)) s).1)), (tk 10 (pk [9, 10 ^ 60] (way - 3)) s).2)
  else if way = 5 then (.f (pkV [.bl true, .bl false, .non] (tk 10 3 s).1), (tk 10 3 s).2)
  else (.f (pkV txs (tk 10 6 s).1), (tk 10 6 s).2)
def knd (way : Int) (gs : List Tg) : Tg := if way = 7 then .l gs else if way = 8 then .t gs else .d gs
def ths (f : FSt → Tg × FSt) : Nat → FSt → List Tg × FSt
  | 0, s => ([], s)
  | k + 1, s => ((ths f k s).1 ++ [(f (ths f k s).2).1], (f (ths f k s).2).2)
def thg : Nat → FSt → Tg × FSt
  | 0, s => flt (tk 10 10 s).1 (tk 10 10 s).2
  | d + 1, s => if (tk 10 10 s).1 < 7 then flt (tk 10 10 s).1 (tk 10 10 s).2 else
      (knd (tk 10 10 s).1 (ths (thg d) (tk 10 3 (tk 10 10 s).2).1.toNat (tk 10 3 (tk 10 10 s).2).2).1, (ths (thg d) (tk 10 3 (tk 10 10 s).2).1.toNat (tk 10 3 (tk 10 10 s).2).2).2)
theorem thg_flat {d : Nat} {s : FSt} (h : (tk 10 10 s).1 < 7 ∨ d = 0) : thg d s = flt (tk 10 10 s).1 (tk 10 10 s).2 := by
  cases d with
  | zero => rfl
  | succ d =>
    rw [thg, if_pos]
    rcases h with h | h
    · exact h
    · cases h
theorem thg_deep {d : Nat} {s : FSt} (h : ¬ (tk 10 10 s).1 < 7) : thg (d + 1) s = (knd (tk 10 10 s).1 (ths (thg d) (tk 10 3 (tk 10 10 s).2).1.toNat (tk 10 3 (tk 10 10 s).2).2).1, (ths (thg d) (tk 10 3 (tk 10 10 s).2).1.toNat (tk 10 3 (tk 10 10 s).2).2).2) := by
  rw [thg, if_neg h]
def cst : Nat → Int
  | 0 => 2048
  | d + 1 => 2048 + 2 * cst d
theorem cst_pos : ∀ d, 2048 ≤ cst d
  | 0 => Int.le_refl _
  | d + 1 => by rw [cst]; have := cst_pos d; omega
theorem flt_good {way c : Int} {s : FSt} (w0 : 0 ≤ way) (h : GoodF s c) : GoodF (flt way s).2 (c + 1024) := by
  have p10 : (2 : Int) ^ 10 = 1024 := by decide
  have T := fun (m : Int) (hm : 1 ≤ m) => (p10 ▸ (tk_ok 10 hm h).2.2 : GoodF (tk 10 m s).2 (c + 1024))
  unfold flt
  split
  · refine T _ ?_
    rcases (show way = 0 ∨ way = 1 ∨ way = 2 by omega) with e | e | e <;> subst e <;> decide
  split
  · refine T _ ?_
    rcases (show way = 3 ∨ way = 4 by omega) with e | e <;> subst e <;> decide
  split
  · exact T 3 (by decide)
  · exact T 6 (by decide)
theorem ths_good {f : FSt → Tg × FSt} {b : Int} (hb : ∀ s c, GoodF s c → GoodF (f s).2 (c + b)) : ∀ (k : Nat) {s : FSt} {c : Int}, GoodF s c → GoodF (ths f k s).2 (c + b * k)
  | 0, s, c, h => h.mono (by simp)
  | k + 1, s, c, h => by
    have := hb _ _ (ths_good hb k h)
    exact this.mono (by push_cast; rw [Int.mul_add]; omega)
theorem thg_good : ∀ (d : Nat) {s : FSt} {c : Int}, GoodF s c → GoodF (thg d s).2 (c + cst d) := by
  have p10 : (2 : Int) ^ 10 = 1024 := by decide
  intro d
  induction d with
  | zero =>
    intro s c h
    have a := tk_ok 10 (m := 10) (by decide) h
    rw [thg_flat (.inr rfl)]
    exact (flt_good a.1 a.2.2).mono (by rw [cst, p10]; omega)
  | succ d ih =>
    intro s c h
    have a := tk_ok 10 (m := 10) (by decide) h
    have cp := cst_pos d
    by_cases z : (tk 10 10 s).1 < 7
    · rw [thg_flat (.inl z)]
      exact (flt_good a.1 a.2.2).mono (by rw [cst, p10]; omega)
    · rw [thg_deep z]
      have b := tk_ok 10 (m := 3) (by decide) a.2.2
      have e := ths_good (f := thg d) (b := cst d) (fun s c h => ih h) (tk 10 3 (tk 10 10 s).2).1.toNat b.2.2
      refine e.mono ?_
      rw [p10, cst]
      rcases (show (tk 10 3 (tk 10 10 s).2).1.toNat = 0 ∨ (tk 10 3 (tk 10 10 s).2).1.toNat = 1 ∨ (tk 10 3 (tk 10 10 s).2).1.toNat = 2 by omega) with q | q | q <;> rw [q] <;> simp <;> omega
theorem depGL_app : ∀ {gs hs : List Tg} {n : Nat}, depGL gs ≤ n → depGL hs ≤ n → depGL (gs ++ hs) ≤ n
  | [], hs, n, _, h => h
  | g :: gs, hs, n, h1, h2 => by
    rw [depGL] at h1
    rw [List.cons_append, depGL]
    have := depGL_app (gs := gs) (hs := hs) (n := n) (by omega) h2
    omega
theorem ths_dep {f : FSt → Tg × FSt} {n : Nat} (hf : ∀ s, depG (f s).1 ≤ n) : ∀ (k : Nat) (s : FSt), depGL (ths f k s).1 ≤ n
  | 0, s => by rw [ths, depGL]; omega
  | k + 1, s => depGL_app (ths_dep hf k s) (by rw [depGL, depGL]; have := hf (ths f k s).2; omega)
theorem flt_dep {way : Int} {s : FSt} : depG (flt way s).1 = 0 := by
  unfold flt
  split
  · rw [depG]
  split
  · rw [depG]
  split
  · rw [depG]
  · rw [depG]
theorem thg_dep : ∀ (d : Nat) (s : FSt), depG (thg d s).1 ≤ d := by
  intro d
  induction d with
  | zero =>
    intro s
    rw [thg_flat (.inr rfl), flt_dep]
    omega
  | succ d ih =>
    intro s
    by_cases z : (tk 10 10 s).1 < 7
    · rw [thg_flat (.inl z), flt_dep]; omega
    · rw [thg_deep z]
      have := ths_dep ih (tk 10 3 (tk 10 10 s).2).1.toNat (tk 10 3 (tk 10 10 s).2).2
      unfold knd
      split
      · rw [depG]; omega
      split
      · rw [depG]; omega
      · rw [depG]; omega
def spThg (d : Nat) : Sp := fun vs H Q _ => ∃ (p : Addr) (c : Int) (s : FSt), vs = [.ref p, .int d] ∧ FeedX H p s ∧ GoodF s c ∧ c + cst d ≤ 800000000 ∧ ∀ v H', IsG H' (fun b => H b ≠ none) v (thg d s).1 → FeedX H' p (thg d s).2 → Chg p H H' → Q v H'
def spFeedX (K : PySem.W.Frag) : Sp := fun vs H Q _ => ∃ (a : Addr) (ns : List Int) (k : Int), vs = [.ref a, .int k] ∧ Scr K H a ns ∧ ns.length ≤ 63 ∧ 0 ≤ k ∧ k ≤ 1000 ∧
  ∀ p H', H p = none → Same H H' → FeedX H' p (fdF ns k) → Q (.ref p) H'
def Cel2 (H : Hp) (v : V) : Prop := Cell H v ∨ ∃ p kvs, v = .ref p ∧ H p = some (.dK kvs)
theorem cel2_int {K : PySem.W.Frag} {H : Hp} {v : V} {Q : VK} (h : Cel2 H v) (q1 : isWh v = false → (∀ b, v ≠ .bl b) → Q (.bl false) H) (q2 : (∃ b, v = .bl b) → Q (.bl true) H) (q3 : isWh v = true → Q (.bl true) H) : rIsI K [v, .ty "int"] H Q := by
  rcases h with h | ⟨p, kvs, rfl, h⟩
  · exact cell_int h q1 q2 q3
  · exact ⟨_, _, _, _, rfl, .dK h, kit_dict_int, q1 rfl (fun b z => by cases z)⟩
def spIsW2 : Sp := fun vs H Q _ => ∃ v : V, vs = [v] ∧ Cel2 H v ∧ Q (.bl (isWh v)) H
theorem IsG.cel {H : Hp} {ex : Addr → Prop} {v : V} {g : Tg} (h : IsG H ex v g) : Cel2 H v := by
  cases g with
  | f y => rw [IsG] at h; obtain ⟨rfl, f⟩ := h; exact .inl (.inl f)
  | l gs => rw [IsG] at h; obtain ⟨p, xs, rfl, h, _⟩ := h; exact .inl (.inr ⟨p, rfl, .inl ⟨xs, h⟩⟩)
  | t gs => rw [IsG] at h; obtain ⟨p, xs, rfl, h, _⟩ := h; exact .inl (.inr ⟨p, rfl, .inr ⟨xs, h⟩⟩)
  | d gs => rw [IsG] at h; obtain ⟨p, xs, rfl, h, _⟩ := h; exact .inr ⟨p, _, rfl, h⟩
theorem FeedX.ne {H : Hp} {p q : Addr} {s : FSt} (h : FeedX H p s) (n : H q = none) : q ≠ p := fun e => by
  subst e
  rw [FeedX, n] at h
  cases h
theorem FeedX.some {H : Hp} {p : Addr} {s : FSt} (h : FeedX H p s) : H p ≠ none := fun e => by
  rw [FeedX, e] at h
  cases h
theorem chg_there {H H' : Hp} {p b : Addr} {s : FSt} (c : Chg p H H') (f : FeedX H' p s) (h : H b ≠ none) : H' b ≠ none := by
  by_cases e : b = p
  · subst e
    exact f.some
  · cases z : H b with
    | none => exact absurd z h
    | some o => rw [c b o e z]; simp
section
variable {σ : St} {H : Hp} {Q : VK} {cs : List Nat} {te : TE}
theorem comp_thg {p : Addr} {n : Nat} {s : FSt} {lo c b : Int} {f : FSt → Tg × FSt} (hz : n ≤ 1000) (hF : FeedX H p s) (G : GoodF s c) (hg : ∀ s c, GoodF s c → GoodF (f s).2 (c + b))
    (hb : ∀ (i : Nat) H' (R : VK) s', i < n → FeedX H' p s' → GoodF s' (c + b * i) → (∀ v H5, IsG H5 (fun b => H' b ≠ none) v (f s').1 → FeedX H5 p (f s').2 → Chg p H' H5 → R v H5) → te (some (.int (lo + i)) :: capV cs σ) H' R)
    (hd : ∀ acc xs H', H acc = none → H' acc = some (.lst xs) → IsGL H' (fun b => H b ≠ none ∨ b = acc) xs (ths f n s).1 → FeedX H' p (ths f n s).2 → Chg p H H' → Q (.ref acc) H') : CompIt (Itr lo n) 1 cs (gName 0) tYes te σ H Q := by
  refine comp_any n (fun acc i ws H' => H' acc = some (.lst ws) ∧ ws.length = i ∧ IsGL H' (fun b => H b ≠ none ∨ b = acc) ws (ths f i s).1 ∧ FeedX H' p (ths f i s).2 ∧ Chg p H H') (le_size hz) ?_ ?_ ?_ ?_ ?_ ?_
  · rintro acc i ws H' hi _
    exact hi
  · rintro acc ws H' _
    exact Nat.le_refl _
  · intro acc ha
    exact ⟨upd_same, rfl, by rw [ths, IsGL], by rw [FeedX, upd_ne (hF.ne ha).symm]; exact hF, (same_new ha _).chg⟩
  · rintro acc i ws H' ⟨ha, hl, _⟩
    exact ⟨ha, by omega⟩
  · rintro acc i ws H' ts x H2 N hn hi ⟨ha, hl, hi', F1, C1⟩ ⟨rfl, rfl⟩ hts hN
    obtain ⟨t0, rfl⟩ : ∃ t0, ts = [t0] := by
      match ts, hts with
      | [a], _ => exact ⟨a, rfl⟩
    rw [w_gName, w_yes, if_pos rfl]
    have ap : acc ≠ p := hF.ne hn
    refine hb i _ _ _ hi F1 (ths_good hg i G) fun v H5 hv F5 C5 => ?_
    have ha5 := C5 _ _ ap ha
    refine ⟨ha5, hN _ [_] _ rfl ⟨upd_same, by rw [List.length_append, hl]; rfl, ?_, ?_, Chg.updN (C1.trans C5) hn⟩⟩
    · rw [ths]
      have up : ∀ b o, b ≠ acc → H5 b = some o → upd H5 acc (.lst (ws ++ [v])) b = some o := fun b o n e => by rw [upd_ne n]; exact e
      refine IsGL.snoc (IsG.keep (fun b o n e => ?_) _ hv) (IsGL.keep (fun b o n e => ?_) _ hi')
      · have n' : H2 b = none := Classical.byContradiction n
        have nb : b ≠ acc := fun z => by rw [z, ha] at n'; cases n'
        refine ⟨up b o nb e, fun z => ?_⟩
        rcases z with z | z
        · exact absurd n' (chg_there C1 F1 z)
        · exact nb z
      · have nb : b ≠ acc := fun z => n (.inr z)
        have np : b ≠ p := fun z => n (.inl (by rw [z]; exact hF.some))
        exact ⟨up b o nb (C5 b o np e), n⟩
    · rw [FeedX, upd_ne ap.symm]
      exact F5
  · rintro acc ws H' hn ⟨ha, hl, hi', F1, C1⟩
    exact hd acc ws H' hn ha hi' F1 C1
end
def spThN : Nat → Sp
  | 0 => fun _ _ _ _ => False
  | d + 1 => spThg d
theorem FeedX.new {H : Hp} {p q : Addr} {s : FSt} {o : HO} (h : FeedX H p s) (n : H q = none) : FeedX (upd H q o) p s := by
  rw [FeedX, upd_ne (h.ne n).symm]
  exact h
theorem flt0 {s : FSt} : flt 0 s = (.f (.int (tk 10 3 s).1), (tk 10 3 s).2) := rfl
theorem flt1 {s : FSt} : flt 1 s = (.f (.int (tk 10 1000 s).1), (tk 10 1000 s).2) := rfl
theorem flt2 {s : FSt} : flt 2 s = (.f (.int (tk 10 1000000000000000000000000000000000000000000000000000000000000 s).1), (tk 10 1000000000000000000000000000000000000000000000000000000000000 s).2) := by
  unfold flt
  rw [if_pos (by decide), show pk [3, 1000, 10 ^ 60] 2 = 1000000000000000000000000000000000000000000000000000000000000 by decide]
theorem flt3 {s : FSt} : flt 3 s = (.f (.int (-(tk 10 9 s).1)), (tk 10 9 s).2) := by
  unfold flt
  rw [if_neg (by decide), if_pos (by decide)]
  rfl
theorem flt4 {s : FSt} : flt 4 s = (.f (.int (-(tk 10 1000000000000000000000000000000000000000000000000000000000000 s).1)), (tk 10 1000000000000000000000000000000000000000000000000000000000000 s).2) := by
  unfold flt
  rw [if_neg (by decide), if_pos (by decide), show pk [9, 10 ^ 60] (4 - 3) = 1000000000000000000000000000000000000000000000000000000000000 by decide]
theorem flt5 {s : FSt} : flt 5 s = (.f (pkV [.bl true, .bl false, .non] (tk 10 3 s).1), (tk 10 3 s).2) := rfl
theorem flt6 {way : Int} {s : FSt} (h1 : ¬ way < 3) (h2 : ¬ way < 5) (h3 : ¬ way = 5) : flt way s = (.f (pkV txs (tk 10 6 s).1), (tk 10 6 s).2) := by
  unfold flt
  rw [if_neg h1, if_neg h2, if_neg h3]
theorem isG_f {H : Hp} {ex : Addr → Prop} {v : V} (h : flatV v = true) : IsG H ex v (.f v) := by rw [IsG]; exact ⟨rfl, h⟩
theorem pk3 {r : Int} (h0 : 0 ≤ r) (h1 : r < 3) : atI [V.bl true, V.bl false, V.non] r = some (pkV [.bl true, .bl false, .non] r) ∧ flatV (pkV [.bl true, .bl false, .non] r) = true := by
  rcases (show r = 0 ∨ r = 1 ∨ r = 2 by omega) with e | e | e <;> subst e <;> exact ⟨rfl, rfl⟩
theorem pk6 {r : Int} (h0 : 0 ≤ r) (h1 : r < 6) : atI txs r = some (pkV txs r) ∧ flatV (pkV txs r) = true := by
  rcases (show r = 0 ∨ r = 1 ∨ r = 2 ∨ r = 3 ∨ r = 4 ∨ r = 5 by omega) with e | e | e | e | e | e <;> subst e <;> exact ⟨rfl, rfl⟩
section
variable {σ : St} {H : Hp} {Q : VK} {cs : List Nat} {te : TE}
theorem comp_prs {xs : List V} (hz : xs.length ≤ 1000)
    (hb : ∀ (i : Nat) x H' (R : VK), xs[i]? = some x → Same H H' → (∀ r, H' r = none → R (.ref r) (upd H' r (.tup [.int i, x]))) → te (some (.int (0 + (i : Int))) :: capV cs σ) H' R)
    (hd : ∀ acc us H', H acc = none → H' acc = some (.lst us) → PrsD H' us (dkFrom 0 xs) → Same H H' → Q (.ref acc) H') : CompIt (Itr 0 xs.length) 1 cs (gName 0) tYes te σ H Q := by
  refine comp_any xs.length (fun acc i ws H' => H' acc = some (.lst ws) ∧ ws.length = i ∧ Same H H' ∧ ∀ (j : Nat) u x, ws[j]? = some u → xs[j]? = some x → ∃ b, u = .ref b ∧ H' b = some (.tup [.int j, x])) (le_size hz) ?_ ?_ ?_ ?_ ?_ ?_
  · rintro acc i ws H' hi _
    exact hi
  · rintro acc ws H' _
    exact Nat.le_refl _
  · intro acc ha
    exact ⟨upd_same, rfl, same_new ha _, fun j u x e => by simp at e⟩
  · rintro acc i ws H' ⟨ha, hl, _⟩
    exact ⟨ha, by omega⟩
  · rintro acc i ws H' ts x H2 N hn hi ⟨ha, hl, S1, hp⟩ ⟨rfl, rfl⟩ hts hN
    obtain ⟨t0, rfl⟩ : ∃ t0, ts = [t0] := by
      match ts, hts with
      | [a], _ => exact ⟨a, rfl⟩
    rw [w_gName, w_yes, if_pos rfl]
    refine hb i _ _ _ (List.getElem?_eq_getElem hi) S1 fun r hr => ?_
    have ra : acc ≠ r := ne_of_none ha hr
    have S5 : Same H2 (upd H2 r (.tup [.int i, xs[i]])) := same_new hr _
    have ha5 := S5 _ _ ha
    refine ⟨ha5, hN _ [_] _ rfl ⟨upd_same, by rw [List.length_append, hl]; rfl, fun b o e => ?_, fun j u x e1 e2 => ?_⟩⟩
    · rw [upd_ne (ne_of_none e hn)]
      exact S5 _ _ (S1 _ _ e)
    · have up : ∀ b ys, upd H2 r (.tup [.int i, xs[i]]) b = some (.tup ys) → upd (upd H2 r (.tup [.int i, xs[i]])) acc (.lst (ws ++ [.ref r])) b = some (.tup ys) := fun b ys e => by
        rw [upd_ne (ne_of e ha5 (by intro z; cases z))]
        exact e
      by_cases hj : j < ws.length
      · rw [List.getElem?_append_left hj] at e1
        obtain ⟨b, h1, h2⟩ := hp j u x e1 e2
        exact ⟨b, h1, up _ _ (S5 _ _ h2)⟩
      · rw [List.getElem?_append_right (by omega)] at e1
        have hj0 : j - ws.length = 0 := by
          have := (List.getElem?_eq_some_iff.mp e1).1
          simp at this
          omega
        rw [hj0] at e1
        have hji : j = i := by omega
        subst hji
        rw [List.getElem?_eq_getElem hi] at e2
        cases e1
        cases e2
        exact ⟨r, rfl, up _ _ upd_same⟩
  · rintro acc ws H' hn ⟨ha, hl, S1, hp⟩
    refine hd acc ws H' hn ha ⟨by rw [dkFrom_len, hl], fun j u kv e1 e2 => ?_⟩ S1
    rw [dkFrom_get] at e2
    cases hx : xs[j]? with
    | none => rw [hx] at e2; cases e2
    | some x =>
      rw [hx, Option.map_some] at e2
      cases e2
      obtain ⟨b, h1, h2⟩ := hp j u x e1 hx
      refine ⟨b, h1, ?_⟩
      rw [h2]
      show some (HO.tup [V.int j, x]) = some (HO.tup [V.int ((0 + j : Nat) : Int), x])
      rw [Nat.zero_add]
end
theorem ths_len {f : FSt → Tg × FSt} : ∀ (k : Nat) {s : FSt}, (ths f k s).1.length = k
  | 0, s => rfl
  | k + 1, s => by rw [ths, List.length_append, ths_len k]; rfl
theorem fdF_good {ns : List Int} {k : Int} : GoodF (fdF ns k) 0 := by
  refine ⟨?_, (modq (by decide)).1, (modq (by decide)).2, Int.le_refl 0, Int.le_refl 0⟩
  show 0 ≤ (if abI (ns.getD k.toNat 0) < 1000000000000000000 then 0 else abI (ns.getD k.toNat 0))
  split <;> omega
theorem feedX_lst {H : Hp} {p : Addr} {s : FSt} (h : FeedX H p s) : H p = some (.lst [.int s.1, .int s.2.1, .int s.2.2]) := h
theorem notI_b {H : Hp} {Q : VK} {b c : Bool} (h : Q (.bl (!decide (b = c))) H) : rNotI (.bl b) (.bl c) H Q := ⟨c, rfl, .inl ⟨b, rfl, h⟩⟩
theorem notI_i {H : Hp} {Q : VK} {j : Int} {c : Bool} (h : Q (.bl true) H) : rNotI (.int j) (.bl c) H Q := ⟨c, rfl, .inr ⟨j, rfl, h⟩⟩
end L2
set_option Elab.async false
set_option linter.all false
set_option maxRecDepth 100000
set_option maxHeartbeats 1000000
namespace L2
open PySem PySem.Spec PyProof.Rows PySem.W
def NoLst (H H' : Hp) : Prop := ∀ b o, H b = some o → (∀ xs, o ≠ .lst xs) → H' b = some o
theorem NoLst.trans {H H1 H2 : Hp} (a : NoLst H H1) (b : NoLst H1 H2) : NoLst H H2 := fun c o e n => b c o (a c o e n) n
end L2
end

section
set_option Elab.async false
set_option linter.all false
set_option maxRecDepth 100000
set_option maxHeartbeats 4000000
namespace Law
open PySem L2
def top (i : Nat) : Stmt := PySem.Challenge.pw_shiftsums_k03_whole_numbers.main.body.getD i (.Pass ⟨0, 0, 0, 0⟩)
abbrev s_is_whole : Stmt := top 1
theorem sc_is_whole : FnScope ["thing"] ["thing"] (defScope s_is_whole) := ⟨rfl, rfl, rfl, by decide +kernel, rfl, by decide +kernel, by decide +kernel⟩
abbrev s_l_feed : Stmt := top 3
theorem sc_l_feed : FnScope ["_law_script", "_law_k", "_law_cell", "_law_great"] ["_law_script", "_law_k"] (defScope s_l_feed) := ⟨rfl, rfl, rfl, by decide +kernel, rfl, by decide +kernel, by decide +kernel⟩
abbrev s_l_take : Stmt := top 4
theorem sc_l_take : FnScope ["_law_feed_here", "_law_many", "_law_high", "_law_digit", "_law_step", "_law_mixed"] ["_law_feed_here", "_law_many"] (defScope s_l_take) := ⟨rfl, rfl, rfl, by decide +kernel, rfl, by decide +kernel, by decide +kernel⟩
abbrev s_l_thing : Stmt := top 5
theorem sc_l_thing : FnScope ["_law_feed_here", "_law_deep_down", "_law_way", "_law_some"] ["_law_feed_here", "_law_deep_down"] (defScope s_l_thing) := ⟨rfl, rfl, rfl, by decide +kernel, rfl, by decide +kernel, by decide +kernel⟩
abbrev s_law : Stmt := top 6
theorem sc_law : FnScope ["_law_script", "_law_k", "_law_thing_here", "_law_copy_of", "_law_due", "_law_found"] ["_law_script"] (defScope s_law) := ⟨rfl, rfl, rfl, by decide +kernel, rfl, by decide +kernel, by decide +kernel⟩
structure Bl (mg : Str → Option Value) : Prop where
  abs : mg "abs" = none
  bool : mg "bool" = none
  dict : mg "dict" = none
  int : mg "int" = none
  isinstance : mg "isinstance" = none
  len : mg "len" = none
  min : mg "min" = none
  range : mg "range" = none
  tuple : mg "tuple" = none
structure Txt (K : PySem.W.Frag) (mg : Str → Option Value) : Prop where
  bl : Bl mg
  t_is_whole : ∃ (f : Addr) (fd : FuncData), Fun K "is_whole" "is_whole" s_is_whole f fd ∧ mg "is_whole" = some (.ref f) ∧ Binds K fd ["thing"] []
  t_l_feed : ∃ (f : Addr) (fd : FuncData), Fun K "_law_feed" "_law_feed" s_l_feed f fd ∧ mg "_law_feed" = some (.ref f) ∧ Binds K fd ["_law_script", "_law_k"] []
  t_l_take : ∃ (f : Addr) (fd : FuncData), Fun K "_law_take" "_law_take" s_l_take f fd ∧ mg "_law_take" = some (.ref f) ∧ Binds K fd ["_law_feed_here", "_law_many"] []
  t_l_thing : ∃ (f : Addr) (fd : FuncData), Fun K "_law_thing" "_law_thing" s_l_thing f fd ∧ mg "_law_thing" = some (.ref f) ∧ Binds K fd ["_law_feed_here", "_law_deep_down"] []
  t_law : ∃ (f : Addr) (fd : FuncData), Fun K "law" "law" s_law f fd ∧ mg "law" = some (.ref f) ∧ Binds K fd ["_law_script"] []
local macro_rules | `(tactic| walk_at "WP") => `(tactic| (first | (dsimp only [w_gLst, w_forE, w_compE, w_compZ, w_for3, w_gTupK, w_ixT, w_eqS, w_aug, w_ipI, w_dnK, w_maxD, w_sl, w_noPart, w_part, w_slL, w_var, w_C, w_op, w_un, w_rI, w_rI0, w_rU, w_eqI, w_neI, w_eqB, w_neB, w_seq, w_next, w_break, w_cont, w_ifS, w_ret, w_retN, w_drop, w_asg, w_gName, w_gSub, w_test, w_B, w_and, w_or, w_not, w_andV, w_orV, w_notV, w_if, w_call, w_nil, w_cons, w_CB, w_lst, w_tup, w_isN, w_notN, w_chain, w_for1, w_for2b, w_On2, w_forL, w_forT, w_forV, w_compL, w_compT, w_comp1, w_comp2b, w_yes, w_bm, w_bm0, w_rBits, w_tyInt, w_gTupM, w_gCons, w_gNil, w_dgS, w_dgI, w_sDP, w_dpS, w_dpI, w_dII, w_disp, tPairs, pen_s, pen_a, pen_l, pen_len, pen_pa, pen_pl, HO.dK.injEq, w_append, List.getElem?_cons_zero, List.getElem?_cons_succ, List.set_cons_zero, List.set_cons_succ, Option.some.injEq, V.int.injEq, V.bl.injEq, V.ref.injEq, V.str.injEq, exists_eq_left', exists_eq_left, List.append_nil, List.cons.injEq, and_true, true_and, exists_and_left, decide_eq_true_eq, Bool.not_eq_true', decide_eq_false_iff_not, Bool.not_true, Bool.not_false, w_ixM, w_ixU, w_ixL, w_setL, w_cxK, w_isI_ii, w_isI_ib, w_isI_bi, w_isI_bb, w_isI_ni, w_isI_nb, w_isI_si, w_isI_sb, sl_0, sl_1, sl_2, sl_3, sl_4, sl_5, sl_6, sl_7, sl_8, CPowB, w_shl1, at_0, at_1, at_2, at_3, ixN_0, ixN_1, ixN_2, upd_same, HO.lst.injEq, HO.tup.injEq, Int.reduceToNat, Int.reducePow, Int.reduceNeg, Int.reduceLT, Int.reduceLE, Int.reduceMod, Int.reduceMul, Int.reduceAdd, Int.reduceSub, Int.reduceDiv, Int.reduceEq, ite_true, ite_false, if_true, if_false, Bool.true_eq_false, Bool.false_eq_true, List.length_cons, List.length_nil, reduceCtorEq, false_and, and_false, not_false_eq_true, not_true_eq_false, exists_false, false_or, or_false, w_pop, w_extend, w_reverse, w_clear, w_cat, w_LZ, w_LR, w_forD, w_compZ2]; try simp only [w_gLst, w_forE, w_compE, w_compZ, w_for3, w_gTupK, w_ixT, w_eqS, w_aug, w_ipI, w_dnK, w_maxD, w_sl, w_noPart, w_part, w_slL, w_var, w_C, w_op, w_un, w_rI, w_rI0, w_rU, w_eqI, w_neI, w_eqB, w_neB, w_seq, w_next, w_break, w_cont, w_ifS, w_ret, w_retN, w_drop, w_asg, w_gName, w_gSub, w_test, w_B, w_and, w_or, w_not, w_andV, w_orV, w_notV, w_if, w_call, w_nil, w_cons, w_CB, w_lst, w_tup, w_isN, w_notN, w_chain, w_for1, w_for2b, w_On2, w_forL, w_forT, w_forV, w_compL, w_compT, w_comp1, w_comp2b, w_yes, w_bm, w_bm0, w_rBits, w_tyInt, w_gTupM, w_gCons, w_gNil, w_dgS, w_dgI, w_sDP, w_dpS, w_dpI, w_dII, w_disp, tPairs, pen_s, pen_a, pen_l, pen_len, pen_pa, pen_pl, HO.dK.injEq, w_append, List.getElem?_cons_zero, List.getElem?_cons_succ, List.set_cons_zero, List.set_cons_succ, Option.some.injEq, V.int.injEq, V.bl.injEq, V.ref.injEq, V.str.injEq, exists_eq_left', exists_eq_left, List.append_nil, List.cons.injEq, and_true, true_and, exists_and_left, decide_eq_true_eq, Bool.not_eq_true', decide_eq_false_iff_not, Bool.not_true, Bool.not_false, w_ixM, w_ixU, w_ixL, w_setL, w_cxK, w_isI_ii, w_isI_ib, w_isI_bi, w_isI_bb, w_isI_ni, w_isI_nb, w_isI_si, w_isI_sb, sl_0, sl_1, sl_2, sl_3, sl_4, sl_5, sl_6, sl_7, sl_8, CPowB, w_shl1, at_0, at_1, at_2, at_3, ixN_0, ixN_1, ixN_2, upd_same, HO.lst.injEq, HO.tup.injEq, Int.reduceToNat, Int.reducePow, Int.reduceNeg, Int.reduceLT, Int.reduceLE, Int.reduceMod, Int.reduceMul, Int.reduceAdd, Int.reduceSub, Int.reduceDiv, Int.reduceEq, ite_true, ite_false, if_true, if_false, Bool.true_eq_false, Bool.false_eq_true, List.length_cons, List.length_nil, reduceCtorEq, false_and, and_false, not_false_eq_true, not_true_eq_false, exists_false, false_or, or_false, w_pop, w_extend, w_reverse, w_clear, w_cat, w_LZ, w_LR, w_forD, w_compZ2]) | simp only [w_gLst, w_forE, w_compE, w_compZ, w_for3, w_gTupK, w_ixT, w_eqS, w_aug, w_ipI, w_dnK, w_maxD, w_sl, w_noPart, w_part, w_slL, w_var, w_C, w_op, w_un, w_rI, w_rI0, w_rU, w_eqI, w_neI, w_eqB, w_neB, w_seq, w_next, w_break, w_cont, w_ifS, w_ret, w_retN, w_drop, w_asg, w_gName, w_gSub, w_test, w_B, w_and, w_or, w_not, w_andV, w_orV, w_notV, w_if, w_call, w_nil, w_cons, w_CB, w_lst, w_tup, w_isN, w_notN, w_chain, w_for1, w_for2b, w_On2, w_forL, w_forT, w_forV, w_compL, w_compT, w_comp1, w_comp2b, w_yes, w_bm, w_bm0, w_rBits, w_tyInt, w_gTupM, w_gCons, w_gNil, w_dgS, w_dgI, w_sDP, w_dpS, w_dpI, w_dII, w_disp, tPairs, pen_s, pen_a, pen_l, pen_len, pen_pa, pen_pl, HO.dK.injEq, w_append, List.getElem?_cons_zero, List.getElem?_cons_succ, List.set_cons_zero, List.set_cons_succ, Option.some.injEq, V.int.injEq, V.bl.injEq, V.ref.injEq, V.str.injEq, exists_eq_left', exists_eq_left, List.append_nil, List.cons.injEq, and_true, true_and, exists_and_left, decide_eq_true_eq, Bool.not_eq_true', decide_eq_false_iff_not, Bool.not_true, Bool.not_false, w_ixM, w_ixU, w_ixL, w_setL, w_cxK, w_isI_ii, w_isI_ib, w_isI_bi, w_isI_bb, w_isI_ni, w_isI_nb, w_isI_si, w_isI_sb, sl_0, sl_1, sl_2, sl_3, sl_4, sl_5, sl_6, sl_7, sl_8, CPowB, w_shl1, at_0, at_1, at_2, at_3, ixN_0, ixN_1, ixN_2, upd_same, HO.lst.injEq, HO.tup.injEq, Int.reduceToNat, Int.reducePow, Int.reduceNeg, Int.reduceLT, Int.reduceLE, Int.reduceMod, Int.reduceMul, Int.reduceAdd, Int.reduceSub, Int.reduceDiv, Int.reduceEq, ite_true, ite_false, if_true, if_false, Bool.true_eq_false, Bool.false_eq_true, List.length_cons, List.length_nil, reduceCtorEq, false_and, and_false, not_false_eq_true, not_true_eq_false, exists_false, false_or, or_false, w_pop, w_extend, w_reverse, w_clear, w_cat, w_LZ, w_LR, w_forD, w_compZ2]))
section
variable {P : Program} {w : World} {K : PySem.W.Frag} {mg : Str → Option Value} {base : Heap}
theorem ok_feedX (T : Txt K mg) : Cal P w K mg base 1 "_law_feed" ["_law_script", "_law_k"] (spFeedX K) := by
  have B := T.bl
  refine mkCal T.t_l_feed sc_l_feed (fun vs H Q E h => ?_) (fun f cdv A outer s H vs Q E hr h => ?_)
  · obtain ⟨a, ns, k, rfl, _⟩ := h
    rfl
  obtain ⟨a, ns, k, rfl, hS, h63, h0, h1, q⟩ := h
  refine ⟨_, ((@pss_cons _ _ _ _ _ (@ps_set _ _ (2) _ _ _ _ sc_l_feed.nd rfl (by first | exact Or.inl rfl | exact Or.inr rfl) pe_int (by rfl) (by first | exact .inl rfl | exact .inr rfl | assumption)) (@pss_cons _ _ _ _ _ (@ps_if _ _ _ _ _ _ _ _ (@pt_cmpR _ _ _ _ _ _ _ _ op_lt (pv 1) (@pe_callB _ _ _ _ _ _ _ _ _ call_lenS rfl B.len bo_len (@pa_cons _ _ _ _ _ (pv 0) pa_nil (by rfl)) (by decide) (by decide) (by rfl) (by rfl)) (@nomark _ _ (by decide) (by decide))) (@pss_one _ _ _ (@ps_set _ _ (2) _ _ _ _ sc_l_feed.nd rfl (by first | exact Or.inl rfl | exact Or.inr rfl) (@pe_ix _ _ _ _ _ _ _ ix_list (pv 0) (pv 1) (fun _ _ => rfl)) (by rfl) (by first | exact .inl rfl | exact .inr rfl | assumption))) pss_nil) (@pss_cons _ _ _ _ _ (@ps_set _ _ (3) _ _ _ _ sc_l_feed.nd rfl (by first | exact Or.inl rfl | exact Or.inr rfl) (@pe_callB _ _ _ _ _ _ _ _ _ call_abs rfl B.abs bo_abs (@pa_cons _ _ _ _ _ (pv 2) pa_nil (by rfl)) (by decide) (by decide) (by rfl) (by rfl)) (by rfl) (by first | exact .inl rfl | exact .inr rfl | assumption)) (@pss_cons _ _ _ _ _ (@ps_if _ _ _ _ _ _ _ _ (@pt_cmpR _ _ _ _ _ _ _ _ op_lt (pv 3) (@pe_op _ _ _ _ _ _ _ _ op_powB pe_int pe_int) (@nomark _ _ (by decide) (by decide))) (@pss_one _ _ _ (@ps_set _ _ (3) _ _ _ _ sc_l_feed.nd rfl (by first | exact Or.inl rfl | exact Or.inr rfl) pe_int (by rfl) (by first | exact .inl rfl | exact .inr rfl | assumption))) pss_nil) (@pss_one _ _ _ (@ps_ret _ _ _ _ (@pe_lst _ _ _ _ (@pa_cons _ _ _ _ _ (pv 3) (@pa_cons _ _ _ _ _ (@pe_op _ _ _ _ _ _ _ _ op_mod (@pe_op _ _ _ _ _ _ _ _ op_add (@pe_op _ _ _ _ _ _ _ _ op_add (@pe_op _ _ _ _ _ _ _ _ op_mulB (@pe_op _ _ _ _ _ _ _ _ op_mod (pv 2) pe_int) pe_int) (@pe_op _ _ _ _ _ _ _ _ op_mulB pe_int (pv 1))) pe_int) pe_int) (@pa_cons _ _ _ _ _ pe_int pa_nil (by rfl)) (by rfl)) (by rfl)))))))))), ?_⟩
  rw [show start ["_law_script", "_law_k", "_law_cell", "_law_great"] [.ref a, .int k] = [some (.ref a), some (.int k), none, none] from rfl]
  try walk_at "WP"
  refine ⟨_, hS.sq, ?_⟩
  split
  · rename_i hk
    rw [List.length_map] at hk
    obtain ⟨v, hv, hvn⟩ := atI_int h0 hk
    refine ⟨_, hS.sq, _, hv, ?_⟩
    try walk_at "WP"
    have e : ns.getD k.toNat 0 = v := by rw [List.getD_eq_getElem?_getD, hvn]; rfl
    refine ite2 (fun z => ?_) (fun z => ?_)
    · refine ⟨mul_r (by decide) (by decide), mul_l (by decide) (by decide), fun p hp => ?_⟩
      refine q p _ hp (same_new hp _) ?_
      have z' : abI v < 1000000000000000000 := z
      unfold FeedX fdF
      rw [upd_same, e, if_pos z']
    · refine ⟨mul_r (by decide) (by decide), mul_l (by decide) (by decide), fun p hp => ?_⟩
      refine q p _ hp (same_new hp _) ?_
      have z' : ¬ abI v < 1000000000000000000 := z
      unfold FeedX fdF
      rw [upd_same, e, if_neg z']
      rfl
  · refine ⟨mul_r (by decide) (by decide), mul_l (by decide) (by decide), fun p hp => ?_⟩
    refine q p _ hp (same_new hp _) ?_
    rename_i hk
    rw [List.length_map] at hk
    have e : ns.getD k.toNat 0 = 0 := by rw [List.getD_eq_getElem?_getD, List.getElem?_eq_none (by omega)]; rfl
    unfold FeedX fdF
    rw [upd_same, e]
    rfl
theorem ok_takeXN (T : Txt K mg) : ∀ n, Cal P w K mg base n "_law_take" ["_law_feed_here", "_law_many"] (spTakeXN n)
  | 0 => by
    obtain ⟨f, fd, F, m, b⟩ := T.t_l_take
    have no : ∀ vs H Q E, ¬ spTakeXN 0 vs H Q E := fun vs H Q E h => by
      obtain ⟨p, m, c, s, _, _, _, _, h0, _⟩ := h
      omega
    exact ⟨f, fd, ⟨fun vs H Q E h => absurd h (no vs H Q E), fun A outer s H args us vs Q E _ _ _ _ h => absurd h (no vs H Q E)⟩, m, F.kp, b⟩
  | n + 1 => by
    have C_l_take := ok_takeXN T n
    have B := T.bl
    refine mkCal T.t_l_take sc_l_take (fun vs H Q E h => ?_) (fun f cdv A outer s H vs Q E hr h => ?_)
    · obtain ⟨a, m, c, s, rfl, _⟩ := h
      rfl
    obtain ⟨p, m, c, ⟨g, d, st⟩, rfl, hH, G, hc, _, hn, hm, hl, q⟩ := h
    refine ⟨_, ((@pss_cons _ _ _ _ _ (@ps_if _ _ _ _ _ _ _ _ (@pt_cmpR _ _ _ _ _ _ _ _ op_gt (pv 1) (@pe_op _ _ _ _ _ _ _ _ op_powB pe_int pe_int) (@nomark _ _ (by decide) (by decide))) (@pss_cons _ _ _ _ _ (@ps_set _ _ (2) _ _ _ _ sc_l_take.nd rfl (by first | exact Or.inl rfl | exact Or.inr rfl) (@pe_cal _ _ _ _ _ _ _ _ _ _ C_l_take hr rfl (@pa_cons _ _ _ _ _ (pv 0) (@pa_cons _ _ _ _ _ (@pe_op _ _ _ _ _ _ _ _ op_add (@pe_op _ _ _ _ _ _ _ _ op_fdivB (pv 1) (@pe_op _ _ _ _ _ _ _ _ op_powB pe_int pe_int)) pe_int) pa_nil (by rfl)) (by rfl)) (by decide) (by rfl) (by rfl)) (by rfl) (by first | exact .inl rfl | exact .inr rfl | assumption)) (@pss_one _ _ _ (@ps_ret _ _ _ _ (@pe_op _ _ _ _ _ _ _ _ op_mod (@pe_op _ _ _ _ _ _ _ _ op_add (@pe_op _ _ _ _ _ _ _ _ op_mulB (pv 2) (@pe_op _ _ _ _ _ _ _ _ op_powB pe_int pe_int)) (@pe_cal _ _ _ _ _ _ _ _ _ _ C_l_take hr rfl (@pa_cons _ _ _ _ _ (pv 0) (@pa_cons _ _ _ _ _ (@pe_op _ _ _ _ _ _ _ _ op_powB pe_int pe_int) pa_nil (by rfl)) (by rfl)) (by decide) (by rfl) (by rfl))) (pv 1))))) pss_nil) (@pss_cons _ _ _ _ _ (@ps_if _ _ _ _ _ _ _ _ (@pt_cmpR _ _ _ _ _ _ _ _ op_gt (@pe_ix _ _ _ _ _ _ _ ix_M (pv 0) pe_int (fun _ _ => rfl)) pe_int (@nomark _ _ (by decide) (by decide))) (@pss_cons _ _ _ _ _ (@ps_set _ _ (3) _ _ _ _ sc_l_take.nd rfl (by first | exact Or.inl rfl | exact Or.inr rfl) (@pe_op _ _ _ _ _ _ _ _ op_mod (@pe_ix _ _ _ _ _ _ _ ix_M (pv 0) pe_int (fun _ _ => rfl)) (pv 1)) (by rfl) (by first | exact .inl rfl | exact .inr rfl | assumption)) (@pss_cons _ _ _ _ _ (@ps_asg _ _ _ _ _ _ (@pe_op _ _ _ _ _ _ _ _ op_fdivB (@pe_ix _ _ _ _ _ _ _ ix_M (pv 0) pe_int (fun _ _ => rfl)) (pv 1)) (@pg_sub _ _ _ _ _ _ _ (pv 0) pe_int set_list (by intro _ ; rfl)) (by rfl) (by rfl) (by rfl)) (@pss_one _ _ _ (@ps_ret _ _ _ _ (pv 3))))) pss_nil) (@pss_cons _ _ _ _ _ (@ps_set _ _ (4) _ _ _ _ sc_l_take.nd rfl (by first | exact Or.inl rfl | exact Or.inr rfl) (@pe_op _ _ _ _ _ _ _ _ op_add (@pe_ix _ _ _ _ _ _ _ ix_M (pv 0) pe_int (fun _ _ => rfl)) pe_int) (by rfl) (by first | exact .inl rfl | exact .inr rfl | assumption)) (@pss_cons _ _ _ _ _ (@ps_asg _ _ _ _ _ _ (pv 4) (@pg_sub _ _ _ _ _ _ _ (pv 0) pe_int set_list (by intro _ ; rfl)) (by rfl) (by rfl) (by rfl)) (@pss_cons _ _ _ _ _ (@ps_set _ _ (5) _ _ _ _ sc_l_take.nd rfl (by first | exact Or.inl rfl | exact Or.inr rfl) (@pe_op _ _ _ _ _ _ _ _ op_mod (@pe_op _ _ _ _ _ _ _ _ op_add (@pe_op _ _ _ _ _ _ _ _ op_add (@pe_ix _ _ _ _ _ _ _ ix_M (pv 0) pe_int (fun _ _ => rfl)) (@pe_op _ _ _ _ _ _ _ _ op_mulB (@pe_op _ _ _ _ _ _ _ _ op_mulB pe_int (pv 4)) (pv 4))) (@pe_op _ _ _ _ _ _ _ _ op_mulB pe_int (pv 4))) pe_int) (by rfl) (by first | exact .inl rfl | exact .inr rfl | assumption)) (@pss_cons _ _ _ _ _ (@ps_set _ _ (5) _ _ _ _ sc_l_take.nd rfl (by first | exact Or.inl rfl | exact Or.inr rfl) (@pe_op _ _ _ _ _ _ _ _ op_mod (@pe_op _ _ _ _ _ _ _ _ op_add (@pe_op _ _ _ _ _ _ _ _ op_add (@pe_op _ _ _ _ _ _ _ _ op_mulB (pv 5) (pv 5)) (@pe_op _ _ _ _ _ _ _ _ op_mulB pe_int (pv 5))) (pv 4)) pe_int) (by rfl) (by first | exact .inl rfl | exact .inr rfl | assumption)) (@pss_cons _ _ _ _ _ (@ps_set _ _ (5) _ _ _ _ sc_l_take.nd rfl (by first | exact Or.inl rfl | exact Or.inr rfl) (@pe_op _ _ _ _ _ _ _ _ op_mod (@pe_op _ _ _ _ _ _ _ _ op_add (@pe_op _ _ _ _ _ _ _ _ op_mulB (pv 5) (pv 5)) (@pe_op _ _ _ _ _ _ _ _ op_mulB pe_int (pv 5))) pe_int) (by rfl) (by first | exact .inl rfl | exact .inr rfl | assumption)) (@pss_one _ _ _ (@ps_ret _ _ _ _ (@pe_op _ _ _ _ _ _ _ _ op_mod (@pe_op _ _ _ _ _ _ _ _ op_fdivB (pv 5) pe_int) (pv 1)))))))))))), ?_⟩
    obtain ⟨hg, hd0, hd1, hs0, hs1⟩ := id G
    unfold FeedX at hH
    dsimp only at hH hg hd0 hd1 hs0 hs1
    rw [show start ["_law_feed_here", "_law_many", "_law_high", "_law_digit", "_law_step", "_law_mixed"] [.ref p, .int m] = [some (.ref p), some (.int m), none, none, none, none] from rfl]
    (iterate 5 ((try (walk_at "WP")); (try (simp only [hH, Option.some.injEq, HO.tup.injEq, HO.lst.injEq, HO.dK.injEq, exists_eq_left', exists_eq_left])))); (try (walk_at "WP"))
    have t2 := two_pow (n := n)
    have l2 := lim_ge n
    split
    · rename_i hbig
      have hl' : m ≤ 1000000 * (lim n - 1) := hl
      have hn0 : 0 < n := by
        rcases Nat.eq_zero_or_pos n with e | e
        · subst e
          have : lim 0 = 11 := rfl
          omega
        · exact e
      have a1 := tk_ok n (m := m / 1000000 + 1) (by omega) G
      refine ⟨divB (by decide) (by decide), p, m / 1000000 + 1, c, (g, d, st), rfl, hH, G, by omega, hn0, by omega, by omega, by omega, fun H1 F1 C1 => ?_⟩
      try walk_at "WP"
      refine ⟨mul_r (by decide) (by decide), p, 1000000, c + 2 ^ n, _, rfl, F1, a1.2.2, by omega, hn0, by omega, by decide, by have := l2.2 hn0; omega, fun H2 F2 C2 => ?_⟩
      try walk_at "WP"
      have e : tk (n + 1) m (g, d, st) = (((tk n (m / 1000000 + 1) (g, d, st)).1 * 1000000 + (tk n 1000000 (tk n (m / 1000000 + 1) (g, d, st)).2).1) % m, (tk n 1000000 (tk n (m / 1000000 + 1) (g, d, st)).2).2) := by rw [tk, if_pos hbig]
      rw [e] at q
      exact ⟨by omega, q _ F2 (C1.trans C2)⟩
    · rename_i hsm
      have e : tk (n + 1) m (g, d, st) = tkS m (g, d, st) := by rw [tk, if_neg hsm]
      rw [e] at q
      unfold tkS at q
      split
      · rename_i hgp
        rw [if_pos hgp] at q
        exact ⟨by omega, divB (by omega) (by omega), q _ upd_same (Chg.upd _)⟩
      · rename_i hgn
        rw [if_neg hgn] at q
        refine ⟨mul_l (by decide) (by decide), mul_r (by omega) (by omega), mul_l (by decide) (by decide), mul_l (by omega) (by omega), mul_l (by decide) (by decide), mul_l (by omega) (by omega), mul_l (by decide) (by decide), divB (by decide) (by decide), by omega, ?_⟩
        exact q _ upd_same (Chg.upd _)
theorem ok_takeX (T : Txt K mg) : Cal P w K mg base 10 "_law_take" ["_law_feed_here", "_law_many"] spTakeX :=
  (ok_takeXN T 10).imp fun vs H Q E h => by
    obtain ⟨p, m, c, s, e, hF, G, hc, h1, h2, q⟩ := h
    exact ⟨p, m, c, s, e, hF, G, by omega, by decide, by decide, h1, Int.le_trans h2 (by decide +kernel), q⟩
end

section
variable {P : Program} {w : World} {K : PySem.W.Frag} {mg : Str → Option Value} {base : Heap}
theorem ok_thg (T : Txt K mg) : ∀ n, Cal P w K mg base (11 + n) "_law_thing" ["_law_feed_here", "_law_deep_down"] (spThN n)
  | 0 => by
    obtain ⟨f, fd, F, m, b⟩ := T.t_l_thing
    have no : ∀ vs H Q E, ¬ spThN 0 vs H Q E := fun vs H Q E h => h
    exact ⟨f, fd, ⟨fun vs H Q E h => absurd h (no vs H Q E), fun A outer s H args us vs Q E _ _ _ _ h => absurd h (no vs H Q E)⟩, m, F.kp, b⟩
  | d + 1 => by
    have C_l_thing := ok_thg T d
    have C_l_take := (ok_takeX (P := P) (w := w) (base := base) T).mono (k := 11 + d) (by omega)
    have B := T.bl
    refine mkCal T.t_l_thing sc_l_thing (fun vs H Q E h => ?_) (fun f cdv A outer s H vs Q E hr h => ?_)
    · obtain ⟨p, c, s, rfl, _⟩ := h
      rfl
    obtain ⟨p, c, s, rfl, hF, G, hc, q⟩ := h
    have cp := cst_pos d
    have p10 : (2 : Int) ^ 10 = 1024 := by decide
    refine ⟨_, ((@pss_cons _ _ _ _ _ (@ps_set _ _ (2) _ _ _ _ sc_l_thing.nd rfl (by first | exact Or.inl rfl | exact Or.inr rfl) (@pe_cal _ _ _ _ _ _ _ _ _ _ C_l_take hr rfl (@pa_cons _ _ _ _ _ (pv 0) (@pa_cons _ _ _ _ _ pe_int pa_nil (by rfl)) (by rfl)) (by decide) (by rfl) (by rfl)) (by rfl) (by first | exact .inl rfl | exact .inr rfl | assumption)) (@pss_cons _ _ _ _ _ (@ps_if _ _ _ _ _ _ _ _ (@pt_cmpR _ _ _ _ _ _ _ _ op_lt (pv 2) pe_int (@nomark _ _ (by decide) (by decide))) (@pss_one _ _ _ (@ps_ret _ _ _ _ (@pe_cal _ _ _ _ _ _ _ _ _ _ C_l_take hr rfl (@pa_cons _ _ _ _ _ (pv 0) (@pa_cons _ _ _ _ _ (@pe_ix _ _ _ _ _ _ _ ix_M (@pe_lst _ _ _ _ (@pa_cons _ _ _ _ _ pe_int (@pa_cons _ _ _ _ _ pe_int (@pa_cons _ _ _ _ _ (@pe_op _ _ _ _ _ _ _ _ op_powB pe_int pe_int) pa_nil (by rfl)) (by rfl)) (by rfl))) (pv 2) (fun _ _ => rfl)) pa_nil (by rfl)) (by rfl)) (by decide) (by rfl) (by rfl)))) pss_nil) (@pss_cons _ _ _ _ _ (@ps_if _ _ _ _ _ _ _ _ (@pt_cmpR _ _ _ _ _ _ _ _ op_lt (pv 2) pe_int (@nomark _ _ (by decide) (by decide))) (@pss_one _ _ _ (@ps_ret _ _ _ _ (@pe_un _ _ _ _ _ _ un_neg (@pe_cal _ _ _ _ _ _ _ _ _ _ C_l_take hr rfl (@pa_cons _ _ _ _ _ (pv 0) (@pa_cons _ _ _ _ _ (@pe_ix _ _ _ _ _ _ _ ix_M (@pe_lst _ _ _ _ (@pa_cons _ _ _ _ _ pe_int (@pa_cons _ _ _ _ _ (@pe_op _ _ _ _ _ _ _ _ op_powB pe_int pe_int) pa_nil (by rfl)) (by rfl))) (@pe_op _ _ _ _ _ _ _ _ op_sub (pv 2) pe_int) (fun _ _ => rfl)) pa_nil (by rfl)) (by rfl)) (by decide) (by rfl) (by rfl))))) pss_nil) (@pss_cons _ _ _ _ _ (@ps_if _ _ _ _ _ _ _ _ (@pt_cmpR _ _ _ _ _ _ _ _ op_eq (pv 2) pe_int (@nomark _ _ (by decide) (by decide))) (@pss_one _ _ _ (@ps_ret _ _ _ _ (@pe_ix _ _ _ _ _ _ _ ix_M (@pe_lst _ _ _ _ (@pa_cons _ _ _ _ _ pe_bl (@pa_cons _ _ _ _ _ pe_bl (@pa_cons _ _ _ _ _ pe_non pa_nil (by rfl)) (by rfl)) (by rfl))) (@pe_cal _ _ _ _ _ _ _ _ _ _ C_l_take hr rfl (@pa_cons _ _ _ _ _ (pv 0) (@pa_cons _ _ _ _ _ pe_int pa_nil (by rfl)) (by rfl)) (by decide) (by rfl) (by rfl)) (fun _ _ => rfl)))) pss_nil) (@pss_cons _ _ _ _ _ (@ps_if _ _ _ _ _ _ _ _ (@PW.pt _ _ _ (@pw_or _ _ _ _ _ _ _ (@pt_cmpR _ _ _ _ _ _ _ _ op_eq (pv 2) pe_int (@nomark _ _ (by decide) (by decide))) (@pw_or1 _ _ _ _ (@pt_cmpR _ _ _ _ _ _ _ _ op_eq (pv 1) pe_int (@nomark _ _ (by decide) (by decide)))))) (@pss_one _ _ _ (@ps_ret _ _ _ _ (@pe_ix _ _ _ _ _ _ _ ix_M (@pe_lst _ _ _ _ (@pa_cons _ _ _ _ _ pe_str (@pa_cons _ _ _ _ _ pe_str (@pa_cons _ _ _ _ _ pe_str (@pa_cons _ _ _ _ _ pe_str (@pa_cons _ _ _ _ _ pe_str (@pa_cons _ _ _ _ _ pe_str pa_nil (by rfl)) (by rfl)) (by rfl)) (by rfl)) (by rfl)) (by rfl))) (@pe_cal _ _ _ _ _ _ _ _ _ _ C_l_take hr rfl (@pa_cons _ _ _ _ _ (pv 0) (@pa_cons _ _ _ _ _ pe_int pa_nil (by rfl)) (by rfl)) (by decide) (by rfl) (by rfl)) (fun _ _ => rfl)))) pss_nil) (@pss_cons _ _ _ _ _ (@ps_set _ _ (3) _ _ _ _ sc_l_thing.nd rfl (by first | exact Or.inl rfl | exact Or.inr rfl) (@pe_comp0 _ _ _ _ _ _ _ _ (["_law_k", "_law_feed_here", "_law_deep_down"]) (1) ([0, 1]) _ _ _ rfl (@pi_range1 _ _ _ _ _ _ rfl B.range (@pa_cons _ _ _ _ _ (@pe_cal _ _ _ _ _ _ _ _ _ _ C_l_take hr rfl (@pa_cons _ _ _ _ _ (pv 0) (@pa_cons _ _ _ _ _ pe_int pa_nil (by rfl)) (by rfl)) (by decide) (by rfl) (by rfl)) pa_nil (by rfl)) (by rfl)) (fun nd C s H fp => ⟨(@pg_name _ _ (0) _ nd rfl (by first | exact Or.inl rfl | exact Or.inr rfl) (by first | exact .inl rfl | exact .inr rfl | assumption)), pn_nil, (@pe_cal _ _ _ _ _ _ _ _ _ _ C_l_thing hr rfl (@pa_cons _ _ _ _ _ (pv 1) (@pa_cons _ _ _ _ _ (@pe_op _ _ _ _ _ _ _ _ op_sub (pv 2) pe_int) pa_nil (by rfl)) (by rfl)) (by decide) (by rfl) (by rfl))⟩) (by decide +kernel) (by first | rfl | decide +kernel) (by first | rfl | decide +kernel) rfl (fun _ => rfl)) (by rfl) (by first | exact .inl rfl | exact .inr rfl | assumption)) (@pss_cons _ _ _ _ _ (@ps_if _ _ _ _ _ _ _ _ (@pt_cmpR _ _ _ _ _ _ _ _ op_eq (pv 2) pe_int (@nomark _ _ (by decide) (by decide))) (@pss_one _ _ _ (@ps_ret _ _ _ _ (pv 3))) pss_nil) (@pss_cons _ _ _ _ _ (@ps_if _ _ _ _ _ _ _ _ (@pt_cmpR _ _ _ _ _ _ _ _ op_eq (pv 2) pe_int (@nomark _ _ (by decide) (by decide))) (@pss_one _ _ _ (@ps_ret _ _ _ _ (@pe_callTy _ _ _ _ _ _ _ _ _ call_tuple_of rfl B.tuple bo_tuple (@pa_cons _ _ _ _ _ (pv 3) pa_nil (by rfl)) (by decide) (by decide) (by rfl) (by rfl)))) pss_nil) (@pss_one _ _ _ (@ps_ret _ _ _ _ (@pe_callTy _ _ _ _ _ _ _ _ _ (@call_dictP _ _ hr) rfl B.dict bo_dict (@pa_cons _ _ _ _ _ (@pe_comp0 _ _ _ _ _ _ _ _ (["_law_k", "_law_some"]) (1) ([3]) _ _ _ rfl (@pi_range1 _ _ _ _ _ _ rfl B.range (@pa_cons _ _ _ _ _ (@pe_callB _ _ _ _ _ _ _ _ _ call_lenM rfl B.len bo_len (@pa_cons _ _ _ _ _ (pv 3) pa_nil (by rfl)) (by decide) (by decide) (by rfl) (by rfl)) pa_nil (by rfl)) (by rfl)) (fun nd C s H fp => ⟨(@pg_name _ _ (0) _ nd rfl (by first | exact Or.inl rfl | exact Or.inr rfl) (by first | exact .inl rfl | exact .inr rfl | assumption)), pn_nil, (@pe_tup _ _ _ _ _ (@pa_cons _ _ _ _ _ (pv 0) (@pa_cons _ _ _ _ _ (@pe_ix _ _ _ _ _ _ _ ix_M (pv 1) (pv 0) (fun _ _ => rfl)) pa_nil (by rfl)) (by rfl)))⟩) (by decide +kernel) (by first | rfl | decide +kernel) (by first | rfl | decide +kernel) rfl (fun _ => rfl)) pa_nil (by rfl)) (by decide) (by decide) (by rfl) (by rfl))))))))))))), ?_⟩
    rw [show start ["_law_feed_here", "_law_deep_down", "_law_way", "_law_some"] [.ref p, .int d] = [some (.ref p), some (.int d), none, none] from rfl]
    try walk_at "WP"
    have a := tk_ok 10 (m := 10) (by decide) G
    rw [p10] at a
    have cq : c + 2048 ≤ 800000000 := by have := cst_pos d; omega
    refine ⟨p, 10, c, s, rfl, hF, G, by omega, by decide, by decide, fun H1 F1 C1 => ?_⟩
    have flatE := thg_flat (d := d) (s := s)
    have deepE := fun e => thg_deep (d := e) (s := s)
    generalize (tk 10 10 s).1 = way at *
    generalize (tk 10 10 s).2 = s1 at *
    obtain ⟨w0, w1, G1⟩ := a
    have TK := fun (m : Int) (hm : 1 ≤ m) => tk_ok 10 (m := m) hm G1
    try walk_at "WP"
    refine ite2 (fun z3 => ?_) (fun z3 => ?_)
    · rw [flatE (.inl (by omega))] at q
      intro p1 n1
      have F1' := F1.new (o := .lst [V.int 3, V.int 1000, V.int 1000000000000000000000000000000000000000000000000000000000000]) n1
      have C1' := C1.trans (same_new n1 (.lst [V.int 3, V.int 1000, V.int 1000000000000000000000000000000000000000000000000000000000000])).chg
      rcases (show way = 0 ∨ way = 1 ∨ way = 2 by omega) with e | e | e
      · subst e
        rw [flt0] at q
        refine ⟨_, rfl, ?_⟩
        exact ⟨p, _, _, s1, rfl, F1', G1, by omega, by decide, by decide, fun H2 F2 C2 => q _ _ (isG_f rfl) F2 (C1'.trans C2)⟩
      · subst e
        rw [flt1] at q
        refine ⟨_, rfl, ?_⟩
        exact ⟨p, _, _, s1, rfl, F1', G1, by omega, by decide, by decide, fun H2 F2 C2 => q _ _ (isG_f rfl) F2 (C1'.trans C2)⟩
      · subst e
        rw [flt2] at q
        refine ⟨_, rfl, ?_⟩
        exact ⟨p, _, _, s1, rfl, F1', G1, by omega, by decide, by decide, fun H2 F2 C2 => q _ _ (isG_f rfl) F2 (C1'.trans C2)⟩
    refine ite2 (fun z5 => ?_) (fun z5 => ?_)
    · rw [flatE (.inl (by omega))] at q
      intro p1 n1
      have F1' := F1.new (o := .lst [V.int 9, V.int 1000000000000000000000000000000000000000000000000000000000000]) n1
      have C1' := C1.trans (same_new n1 (.lst [V.int 9, V.int 1000000000000000000000000000000000000000000000000000000000000])).chg
      rcases (show way = 3 ∨ way = 4 by omega) with e | e
      · subst e
        rw [flt3] at q
        refine ⟨_, rfl, ?_⟩
        refine ⟨p, _, _, s1, rfl, F1', G1, by omega, by decide, by decide, fun H2 F2 C2 => ?_⟩
        try walk_at "WP"
        exact q _ _ (isG_f rfl) F2 (C1'.trans C2)
      · subst e
        rw [flt4] at q
        refine ⟨_, rfl, ?_⟩
        refine ⟨p, _, _, s1, rfl, F1', G1, by omega, by decide, by decide, fun H2 F2 C2 => ?_⟩
        try walk_at "WP"
        exact q _ _ (isG_f rfl) F2 (C1'.trans C2)
    refine ite2 (fun y5 => ?_) (fun y5 => ?_)
    · rw [flatE (.inl (by omega)), y5, flt5] at q
      intro p1 n1
      have F1' := F1.new (o := .lst [V.bl true, V.bl false, V.non]) n1
      have C1' := C1.trans (same_new n1 (.lst [V.bl true, V.bl false, V.non])).chg
      obtain ⟨t0, t1, t2⟩ := TK 3 (by decide)
      have k := pk3 t0 t1
      refine ⟨p, _, _, s1, rfl, F1', G1, by omega, by decide, by decide, fun H2 F2 C2 => ?_⟩
      exact ⟨p1, _, _, _, rfl, rfl, C2 _ _ (F1.ne n1) upd_same, k.1, q _ _ (isG_f k.2) F2 (C1'.trans C2)⟩
    refine ite2 (fun y6 => ?_) (fun y6 => ?_)
    · rw [flatE (.inl (by omega)), flt6 z3 z5 y5] at q
      intro p1 n1
      have F1' := F1.new (o := .lst txs) n1
      have C1' := C1.trans (same_new n1 (.lst txs)).chg
      obtain ⟨t0, t1, t2⟩ := TK 6 (by decide)
      have k := pk6 t0 t1
      refine ⟨p, _, _, s1, rfl, F1', G1, by omega, by decide, by decide, fun H2 F2 C2 => ?_⟩
      exact ⟨p1, _, _, _, rfl, rfl, C2 _ _ (F1.ne n1) upd_same, k.1, q _ _ (isG_f k.2) F2 (C1'.trans C2)⟩
    refine ite2 (fun y0 => ?_) (fun y0 => ?_)
    · rw [flatE (.inr (by omega)), flt6 z3 z5 y5] at q
      intro p1 n1
      have F1' := F1.new (o := .lst txs) n1
      have C1' := C1.trans (same_new n1 (.lst txs)).chg
      obtain ⟨t0, t1, t2⟩ := TK 6 (by decide)
      have k := pk6 t0 t1
      refine ⟨p, _, _, s1, rfl, F1', G1, by omega, by decide, by decide, fun H2 F2 C2 => ?_⟩
      exact ⟨p1, _, _, _, rfl, rfl, C2 _ _ (F1.ne n1) upd_same, k.1, q _ _ (isG_f k.2) F2 (C1'.trans C2)⟩
    obtain ⟨e, rfl⟩ : ∃ e, d = e + 1 := ⟨d - 1, by omega⟩
    rw [deepE e (by omega)] at q
    obtain ⟨t0, t1, G2⟩ := TK 3 (by decide)
    rw [p10] at G2
    have ce : cst (e + 1) = 2048 + 2 * cst e := rfl
    have ep := cst_pos e
    refine ⟨p, _, _, s1, rfl, F1, G1, by omega, by decide, by decide, fun H2 F2 C2 => ?_⟩
    generalize (tk 10 3 s1).1 = r at *
    generalize (tk 10 3 s1).2 = s2 at *
    refine ⟨r, rfl, by omega, by omega, ?_⟩
    have ecap : capV [0, 1] [some (V.ref p), some (V.int (e + 1 : Nat)), some (V.int way), none] = [some (V.ref p), some (V.int (e + 1 : Nat))] := rfl
    refine comp_thg (f := thg e) (b := cst e) (by omega) F2 G2 (fun s c h => thg_good e h) (fun i H' R s' hi F' G' hR => ?_) (fun acc xs H3 hn ha hI F3 C3 => ?_)
    · rw [ecap]
      try walk_at "WP"
      have bi : cst e * (i : Int) ≤ cst e * 1 := Int.mul_le_mul_of_nonneg_left (by omega) (by omega)
      exact ⟨p, _, s', by rw [show ((e + 1 : Nat) : Int) - 1 = (e : Int) by omega], F', G', by omega, hR⟩
    have C13 : Chg p H H3 := (C1.trans C2).trans C3
    have hnH : H acc = none := by
      cases z : H acc with
      | none => rfl
      | some o => exact absurd hn (chg_there (C1.trans C2) F2 (by rw [z]; simp))
    have hI' : IsGL H3 (fun b => H b ≠ none) xs (ths (thg e) r.toNat s2).1 := hI.keep (fun b o n e => ⟨e, fun z => n (.inl (chg_there (C1.trans C2) F2 z))⟩) _
    refine ite2 (fun y7 => ?_) (fun y7 => ?_)
    · refine q _ _ ?_ F3 C13
      show IsG H3 _ _ (knd way _)
      rw [knd, if_pos y7, IsG]
      exact ⟨acc, xs, rfl, ha, fun z => z hnH, hI'⟩
    refine ite2 (fun y8 => ?_) (fun y8 => ?_)
    · refine ⟨acc, rfl, xs, .inl ⟨SqL.of ha, fun l hl => ?_⟩⟩
      have S4 := same_new hl (.tup xs)
      have hlH : ¬ H l ≠ none := fun z => absurd hl (chg_there C13 F3 z)
      refine q _ _ ?_ (F3.new hl) (C13.trans S4.chg)
      show IsG _ _ _ (knd way _)
      rw [knd, if_neg y7, if_pos y8, IsG]
      exact ⟨l, xs, rfl, upd_same, hlH, hI'.keep (fun b o n e => ⟨S4 b o e, n⟩) _⟩
    · have lx : xs.length ≤ 2 := by rw [hI'.len, ths_len]; omega
      refine ⟨acc, rfl, xs, ha, by omega, by omega, ?_⟩
      rw [Int.toNat_natCast]
      have ecap2 : capV [3] [some (V.ref p), some (V.int (e + 1 : Nat)), some (V.int way), some (V.ref acc)] = [some (V.ref acc)] := rfl
      refine comp_prs (by omega) (fun i x H' R hx S' hR => ?_) (fun a2 us H4 hn4 ha4 hP S4 => ?_)
      · rw [ecap2]
        try walk_at "WP"
        rw [Int.zero_add]
        exact ⟨_, S' _ _ ha, _, atI_nat hx, hR⟩
      refine ⟨a2, us, dkFrom 0 xs, rfl, ha4, hP, dkFrom_nd, by rw [dkFrom_len]; omega, fun l hl => ?_⟩
      have S5 := S4.trans (same_new hl (.dK (dkFrom 0 xs)))
      have F4 : FeedX H4 p (ths (thg e) r.toNat s2).2 := S4 _ _ F3
      have hlH : ¬ H l ≠ none := fun z => absurd hl (chg_there (C13.trans S4.chg) F4 z)
      refine q _ _ ?_ (F4.new hl) (C13.trans S5.chg)
      show IsG _ _ _ (knd way _)
      rw [knd, if_neg y7, if_neg y8, IsG]
      exact ⟨l, xs, rfl, upd_same, hlH, hI'.keep (fun b o n e => ⟨S5 b o e, n⟩) _⟩
end

section
variable {P : Program} {w : World} {K : PySem.W.Frag} {mg : Str → Option Value} {base : Heap}
theorem ok_isw2 (T : Txt K mg) : Cal P w K mg base 1 "is_whole" ["thing"] spIsW2 := by
  have B := T.bl
  refine mkCal T.t_is_whole sc_is_whole (fun vs H Q E h => ?_) (fun f cdv A outer s H vs Q E hr h => ?_)
  · obtain ⟨_, rfl, _⟩ := h
    rfl
  obtain ⟨v, rfl, hc, q⟩ := h
  refine ⟨_, ((@pss_one _ _ _ (@ps_ret _ _ _ _ (@pe_and _ _ _ _ _ _ _ (@pe_callB _ _ _ _ _ _ _ _ _ call_isI rfl B.isinstance bo_isinstance (@pa_cons _ _ _ _ _ (pv 0) (@pa_cons _ _ _ _ _ (@pe_bltn _ _ (.ty "int") _ _ rfl B.int bo_int rfl (by decide) (by decide)) pa_nil (by rfl)) (by rfl)) (by decide) (by decide) (by rfl) (by rfl)) (@pe_one _ _ _ _ _ (@pe_not _ _ _ _ (@pe_callB _ _ _ _ _ _ _ _ _ call_isI rfl B.isinstance bo_isinstance (@pa_cons _ _ _ _ _ (pv 0) (@pa_cons _ _ _ _ _ (@pe_bltn _ _ (.ty "bool") _ _ rfl B.bool bo_bool rfl (by decide) (by decide)) pa_nil (by rfl)) (by rfl)) (by decide) (by decide) (by rfl) (by rfl)))))))), ?_⟩
  rw [show start ["thing"] [v] = [some (v)] from rfl]
  try walk_at "WP"
  refine cel2_int hc (fun z1 z2 => ?_) (fun ⟨b, e⟩ => ?_) (fun z => ?_)
  · try walk_at "WP"
    rw [z1] at q
    exact q
  · subst e
    try walk_at "WP"
    exact q
  · cases v with
    | int i =>
      try walk_at "WP"
      exact q
    | _ => cases z
end

section
variable {P : Program} {w : World} {K : PySem.W.Frag} {mg : Str → Option Value} {base : Heap}
theorem ok_law (T : Txt K mg) {f : Addr} {fd : FuncData} (F : Fun K "law" "law" s_law f fd) : FnOk P w K mg base CX0 20 f fd ["_law_script"] (spLaw K) := by
  have B := T.bl
  have C_l_feed := (ok_feedX (P := P) (w := w) (base := base) T).mono (k := 19) (by decide)
  have C_l_thing := (ok_thg (P := P) (w := w) (base := base) T 4).mono (k := 19) (by decide)
  have C_is_whole := (ok_isw2 (P := P) (w := w) (base := base) T).mono (k := 19) (by decide)
  refine F.ok sc_law (fun vs H Q E h => ?_) (fun cdv A outer s H vs Q E hr h => ?_)
  · obtain ⟨a, ns, rfl, _⟩ := h
    rfl
  obtain ⟨a, ns, rfl, hS, h63, q⟩ := h
  refine ⟨_, ((@pss_cons _ _ _ _ _ (@ps_for _ _ _ _ _ _ _ _ PassesOwn.never rfl (@pi_range1 _ _ _ _ _ _ rfl B.range (@pa_cons _ _ _ _ _ (@pe_callB _ _ _ _ _ _ _ _ _ (@call_min2 _ rfl) rfl B.min bo_min (@pa_cons _ _ _ _ _ pe_int (@pa_cons _ _ _ _ _ (@pe_callB _ _ _ _ _ _ _ _ _ call_lenS rfl B.len bo_len (@pa_cons _ _ _ _ _ (pv 0) pa_nil (by rfl)) (by decide) (by decide) (by rfl) (by rfl)) pa_nil (by rfl)) (by rfl)) (by decide) (by decide) (by rfl) (by rfl)) pa_nil (by rfl)) (by rfl)) (@pg_name _ _ (1) _ sc_law.nd rfl (by first | exact Or.inl rfl | exact Or.inr rfl) (by first | exact .inl rfl | exact .inr rfl | assumption)) (@pss_cons _ _ _ _ _ (@ps_set _ _ (2) _ _ _ _ sc_law.nd rfl (by first | exact Or.inl rfl | exact Or.inr rfl) (@pe_cal _ _ _ _ _ _ _ _ _ _ C_l_thing hr rfl (@pa_cons _ _ _ _ _ (@pe_cal _ _ _ _ _ _ _ _ _ _ C_l_feed hr rfl (@pa_cons _ _ _ _ _ (pv 0) (@pa_cons _ _ _ _ _ (pv 1) pa_nil (by rfl)) (by rfl)) (by decide) (by rfl) (by rfl)) (@pa_cons _ _ _ _ _ pe_int pa_nil (by rfl)) (by rfl)) (by decide) (by rfl) (by rfl)) (by rfl) (by first | exact .inl rfl | exact .inr rfl | assumption)) (@pss_cons _ _ _ _ _ (@ps_set _ _ (3) _ _ _ _ sc_law.nd rfl (by first | exact Or.inl rfl | exact Or.inr rfl) (@pe_cal _ _ _ _ _ _ _ _ _ _ C_l_thing hr rfl (@pa_cons _ _ _ _ _ (@pe_cal _ _ _ _ _ _ _ _ _ _ C_l_feed hr rfl (@pa_cons _ _ _ _ _ (pv 0) (@pa_cons _ _ _ _ _ (pv 1) pa_nil (by rfl)) (by rfl)) (by decide) (by rfl) (by rfl)) (@pa_cons _ _ _ _ _ pe_int pa_nil (by rfl)) (by rfl)) (by decide) (by rfl) (by rfl)) (by rfl) (by first | exact .inl rfl | exact .inr rfl | assumption)) (@pss_cons _ _ _ _ _ (@ps_set _ _ (4) _ _ _ _ sc_law.nd rfl (by first | exact Or.inl rfl | exact Or.inr rfl) (@pe_and _ _ _ _ _ _ _ (@pe_callB _ _ _ _ _ _ _ _ _ call_isI rfl B.isinstance bo_isinstance (@pa_cons _ _ _ _ _ (pv 2) (@pa_cons _ _ _ _ _ (@pe_bltn _ _ (.ty "int") _ _ rfl B.int bo_int rfl (by decide) (by decide)) pa_nil (by rfl)) (by rfl)) (by decide) (by decide) (by rfl) (by rfl)) (@pe_and _ _ _ _ _ _ _ (@pe_cmpR _ _ _ _ _ _ _ _ op_notI (pv 2) pe_bl (@nomark _ _ (by decide) (by decide))) (@pe_one _ _ _ _ _ (@pe_cmpR _ _ _ _ _ _ _ _ op_notI (pv 2) pe_bl (@nomark _ _ (by decide) (by decide)))))) (by rfl) (by first | exact .inl rfl | exact .inr rfl | assumption)) (@pss_cons _ _ _ _ _ (@ps_set _ _ (5) _ _ _ _ sc_law.nd rfl (by first | exact Or.inl rfl | exact Or.inr rfl) (@pe_cal _ _ _ _ _ _ _ _ _ _ C_is_whole hr rfl (@pa_cons _ _ _ _ _ (pv 2) pa_nil (by rfl)) (by decide) (by rfl) (by rfl)) (by rfl) (by first | exact .inl rfl | exact .inr rfl | assumption)) (@pss_cons _ _ _ _ _ (@ps_if _ _ _ _ _ _ _ _ (@PW.pt _ _ _ (@pw_or _ _ _ _ _ _ _ (@pt_not _ _ _ _ (@pt_val _ _ _ (@pe_callB _ _ _ _ _ _ _ _ _ call_isI rfl B.isinstance bo_isinstance (@pa_cons _ _ _ _ _ (pv 5) (@pa_cons _ _ _ _ _ (@pe_bltn _ _ (.ty "bool") _ _ rfl B.bool bo_bool rfl (by decide) (by decide)) pa_nil (by rfl)) (by rfl)) (by decide) (by decide) (by rfl) (by rfl)) (by intro _ ; rfl))) (@pw_or _ _ _ _ _ _ _ (@pt_cmpR _ _ _ _ _ _ _ _ op_ne (pv 5) (pv 4) (@nomark _ _ (by decide) (by decide))) (@pw_or1 _ _ _ _ (@pt_cmpR _ _ _ _ _ _ _ _ (@op_neG _ _ hr) (pv 2) (pv 3) (@nomark _ _ (by decide) (by decide))))))) (@pss_one _ _ _ (@ps_ret _ _ _ _ pe_bl)) pss_nil) (@pss_one _ _ _ (@ps_if _ _ _ _ _ _ _ _ (@PW.pt _ _ _ (@pw_or _ _ _ _ _ _ _ (@pt_cmpR _ _ _ _ _ _ _ _ op_notB (@pe_cal _ _ _ _ _ _ _ _ _ _ C_is_whole hr rfl (@pa_cons _ _ _ _ _ (@pe_lst _ _ _ _ (@pa_cons _ _ _ _ _ (pv 2) pa_nil (by rfl))) pa_nil (by rfl)) (by decide) (by rfl) (by rfl)) pe_bl (@nomark _ _ (by decide) (by decide))) (@pw_or1 _ _ _ _ (@pt_cmpR _ _ _ _ _ _ _ _ op_notB (@pe_cal _ _ _ _ _ _ _ _ _ _ C_is_whole hr rfl (@pa_cons _ _ _ _ _ (@pe_tup _ _ _ _ _ (@pa_cons _ _ _ _ _ (pv 2) pa_nil (by rfl))) pa_nil (by rfl)) (by decide) (by rfl) (by rfl)) pe_bl (@nomark _ _ (by decide) (by decide)))))) (@pss_one _ _ _ (@ps_ret _ _ _ _ pe_bl)) pss_nil))))))) (by intro _ ; rfl)) (@pss_cons _ _ _ _ _ (@ps_for _ _ _ _ _ _ _ _ PassesOwn.never rfl (@pi_list _ _ _ _ (@pe_lst _ _ _ _ (@pa_cons _ _ _ _ _ pe_bl (@pa_cons _ _ _ _ _ pe_bl (@pa_cons _ _ _ _ _ pe_non (@pa_cons _ _ _ _ _ pe_str (@pa_cons _ _ _ _ _ pe_str (@pa_cons _ _ _ _ _ (@pe_lst _ _ _ _ pa_nil) (@pa_cons _ _ _ _ _ (@pe_tup _ _ _ _ _ pa_nil) (@pa_cons _ _ _ _ _ pe_dnewK (@pa_cons _ _ _ _ _ (@pe_lst _ _ _ _ (@pa_cons _ _ _ _ _ pe_int pa_nil (by rfl))) (@pa_cons _ _ _ _ _ (@pe_tup _ _ _ _ _ (@pa_cons _ _ _ _ _ pe_int pa_nil (by rfl))) (@pa_cons _ _ _ _ _ (@pe_disp _ _ _ _ _ (@pps_cons _ _ _ _ _ _ _ _ _ pe_int pe_int pps_nil) rfl rfl (by simp) (by decide)) pa_nil (by rfl)) (by rfl)) (by rfl)) (by rfl)) (by rfl)) (by rfl)) (by rfl)) (by rfl)) (by rfl)) (by rfl)) (by rfl)))) (@pg_name _ _ (2) _ sc_law.nd rfl (by first | exact Or.inl rfl | exact Or.inr rfl) (by first | exact .inl rfl | exact .inr rfl | assumption)) (@pss_one _ _ _ (@ps_if _ _ _ _ _ _ _ _ (@pt_cmpR _ _ _ _ _ _ _ _ op_notB (@pe_cal _ _ _ _ _ _ _ _ _ _ C_is_whole hr rfl (@pa_cons _ _ _ _ _ (pv 2) pa_nil (by rfl)) (by decide) (by rfl) (by rfl)) pe_bl (@nomark _ _ (by decide) (by decide))) (@pss_one _ _ _ (@ps_ret _ _ _ _ pe_bl)) pss_nil)) (by intro _ ; rfl)) (@pss_one _ _ _ (@ps_ret _ _ _ _ (@pe_and _ _ _ _ _ _ _ (@pe_cmpR _ _ _ _ _ _ _ _ op_isB (@pe_cal _ _ _ _ _ _ _ _ _ _ C_is_whole hr rfl (@pa_cons _ _ _ _ _ pe_int pa_nil (by rfl)) (by decide) (by rfl) (by rfl)) pe_bl (@nomark _ _ (by decide) (by decide))) (@pe_and _ _ _ _ _ _ _ (@pe_cmpR _ _ _ _ _ _ _ _ op_isB (@pe_cal _ _ _ _ _ _ _ _ _ _ C_is_whole hr rfl (@pa_cons _ _ _ _ _ (@pe_un _ _ _ _ _ _ un_neg pe_int) pa_nil (by rfl)) (by decide) (by rfl) (by rfl)) pe_bl (@nomark _ _ (by decide) (by decide))) (@pe_one _ _ _ _ _ (@pe_cmpR _ _ _ _ _ _ _ _ op_isB (@pe_cal _ _ _ _ _ _ _ _ _ _ C_is_whole hr rfl (@pa_cons _ _ _ _ _ (@pe_op _ _ _ _ _ _ _ _ op_powB pe_int pe_int) pa_nil (by rfl)) (by decide) (by rfl) (by rfl)) pe_bl (@nomark _ _ (by decide) (by decide))))))))))), ?_⟩
  rw [show start ["_law_script", "_law_k", "_law_thing_here", "_law_copy_of", "_law_due", "_law_found"] [.ref a] = [some (.ref a), none, none, none, none, none] from rfl]
  try walk_at "WP"
  refine ⟨_, hS.sq, 60, _, ⟨rfl, rfl⟩, by split <;> omega, by split <;> omega, ?_⟩
  refine forR (fun i σ H' => ∃ o1 o2 o3 o4 o5, σ = [some (.ref a), o1, o2, o3, o4, o5] ∧ Scr K H' a ns) ⟨_, _, _, _, _, rfl, hS⟩ ?_ ?_
  · rintro i σ H0 N hi ⟨o1, o2, o3, o4, o5, rfl, SS⟩ hN
    have hi60 : i < 60 := by
      refine Nat.lt_of_lt_of_le hi ?_
      split <;> omega
    try walk_at "WP"
    refine ⟨a, ns, _, rfl, SS, h63, by omega, by omega, fun p1 H1 n1 s1 F1 => ?_⟩
    refine ⟨p1, 0, _, rfl, F1, fdF_good, by decide, fun v1 H2 I1 F2 C2 => ?_⟩
    have S2 := (SS.same s1).chg (feedX_lst F1) C2
    refine ⟨a, ns, _, rfl, S2, h63, by omega, by omega, fun p2 H3 n3 s3 F3 => ?_⟩
    refine ⟨p2, 0, _, rfl, F3, fdF_good, by decide, fun v2 H4 I2 F4 C4 => ?_⟩
    have S4 := (S2.same s3).chg (feedX_lst F3) C4
    have J1 : IsG H4 (fun _ => False) v1 (thg 3 (fdF ns (0 + i))).1 := I1.keep (fun b o n e => ⟨C4 b o (ne_of_none e n3) (s3 b o e), fun z => z⟩) _
    have J2 : IsG H4 (fun _ => False) v2 (thg 3 (fdF ns (0 + i))).1 := I2.keep (fun b o n e => ⟨e, fun z => z⟩) _
    have dp : depG (thg 3 (fdF ns (0 + i))).1 ≤ 40 := Nat.le_trans (thg_dep 3 _) (by decide)
    have fin : ∀ o4 o5 H5, Same H4 H5 → N [some (V.ref a), some (V.int (0 + i)), some v1, some v2, o4, o5] H5 := fun o4 o5 H5 s5 => hN _ _ ⟨_, _, _, _, _, rfl, S4.same s5⟩
    have tail : ∀ o4 o5, ∀ (p : Addr), H4 p = none → spIsW2 [V.ref p] (upd H4 p (HO.lst [v1])) (fun x H1 => rNotB x (V.bl false) H1 fun x H' => ∃ k, x = V.bl k ∧ if k = true then Q (V.bl false) H' else ∀ (p : Addr), H' p = none → spIsW2 [V.ref p] (upd H' p (HO.tup [v1])) (fun x H1 => rNotB x (V.bl false) H1 fun x H' => ∃ k, x = V.bl k ∧ if k = true then Q (V.bl false) H' else N [some (V.ref a), some (V.int (0 + i)), some v1, some v2, o4, o5] H') E0) E0 := fun o4 o5 p np => by
      refine abs_ np fun H5 s5 h5 => ?_
      refine ⟨_, rfl, .inl (.inr ⟨_, rfl, .inl ⟨_, h5⟩⟩), ?_⟩
      refine notB_f ?_
      try walk_at "WP"
      intro p' np'
      refine abs_ np' fun H6 s6 h6 => ?_
      refine ⟨_, rfl, .inl (.inr ⟨_, rfl, .inr ⟨_, h6⟩⟩), ?_⟩
      refine notB_f ?_
      try walk_at "WP"
      exact fin _ _ _ (s5.trans s6)
    refine cel2_int J1.cel (fun z1 z2 => ?_) (fun ⟨b, e⟩ => ?_) (fun z => ?_)
    · try walk_at "WP"
      refine ⟨v1, rfl, J1.cel, ?_⟩
      rw [z1]
      try walk_at "WP"
      refine ⟨_, _, _, J1, J2, dp, ?_⟩
      try walk_at "WP"
      exact tail _ _
    · subst e
      try walk_at "WP"
      refine notI_b ?_
      cases b with
      | true =>
        try walk_at "WP"
        refine ⟨_, rfl, J1.cel, ?_⟩
        rw [show isWh (V.bl true) = false from rfl]
        try walk_at "WP"
        refine ⟨_, _, _, J1, J2, dp, ?_⟩
        try walk_at "WP"
        exact tail _ _
      | false =>
        try walk_at "WP"
        refine notI_b ?_
        refine ⟨_, rfl, J1.cel, ?_⟩
        rw [show isWh (V.bl false) = false from rfl]
        try walk_at "WP"
        refine ⟨_, _, _, J1, J2, dp, ?_⟩
        try walk_at "WP"
        exact tail _ _
    · cases v1 with
      | int j =>
        try walk_at "WP"
        refine notI_i ?_
        try walk_at "WP"
        refine notI_i ?_
        refine ⟨_, rfl, J1.cel, ?_⟩
        rw [show isWh (V.int j) = true from rfl]
        try walk_at "WP"
        refine ⟨_, _, _, J1, J2, dp, ?_⟩
        try walk_at "WP"
        exact tail _ _
      | _ => cases z
  · rintro σ H0 ⟨o1, o2, o3, o4, o5, rfl, SS⟩
    try walk_at "WP"
    intro e0 n0
    refine abs_ n0 fun G0 s0 h0 => ?_
    intro e1 n1
    refine abs_ n1 fun G1 s1 h1 => ?_
    intro e2 n2
    refine abs_ n2 fun G2 s2 h2 => ?_
    intro e3 n3
    refine abs_ n3 fun G3 s3 h3 => ?_
    intro e4 n4
    refine abs_ n4 fun G4 s4 h4 => ?_
    intro e5 n5
    refine ⟨[(.inl 1, .int 1)], rfl, by decide, by decide, ?_⟩
    rw [upd_upd]
    refine abs_ n5 fun G5 s5 h5 => ?_
    intro e6 n6
    refine abs_ n6 fun G6 s6 h6 => ?_
    refine ⟨⟨_, SqL.of h6⟩, ?_⟩
    have k45 := s5.trans s6
    have k35 := s4.trans k45
    have k25 := s3.trans k35
    have k15 := s2.trans k25
    have k05 := s1.trans k15
    refine forL (xs := [V.bl true, V.bl false, V.non, V.str (Str.ofString ""), V.str (Str.ofString "1"), V.ref e0, V.ref e1, V.ref e2, V.ref e3, V.ref e4, V.ref e5]) (fun j σ H5 => ∃ o, σ = [some (V.ref a), o1, o, o3, o4, o5] ∧ H5 = G6) ⟨_, rfl, rfl⟩ ?_ ?_ ?_
    · rintro j σ H5 _ ⟨o, rfl, rfl⟩
      exact SqL.of h6
    · rintro j x σ H5 N hx ⟨o, rfl, rfl⟩ hN
      have hm := List.mem_of_getElem? hx
      try walk_at "WP"
      have fin : isWh x = false → Cel2 H5 x → spIsW2 [x] H5 (fun x_1 H1 => rNotB x_1 (V.bl false) H1 fun x_2 H' => ∃ k, x_2 = V.bl k ∧ if k = true then Q (V.bl false) H' else N [some (V.ref a), o1, some x, o3, o4, o5] H') E0 := fun w c => by
        refine ⟨x, rfl, c, ?_⟩
        rw [w]
        refine notB_f ?_
        try walk_at "WP"
        exact hN _ _ ⟨_, rfl, rfl⟩
      simp only [List.mem_cons, List.not_mem_nil, or_false] at hm
      rcases hm with e | e | e | e | e | e | e | e | e | e | e <;> subst e
      · exact fin rfl (.inl (.inl rfl))
      · exact fin rfl (.inl (.inl rfl))
      · exact fin rfl (.inl (.inl rfl))
      · exact fin rfl (.inl (.inl rfl))
      · exact fin rfl (.inl (.inl rfl))
      · exact fin rfl (.inl (.inr ⟨_, rfl, .inl ⟨_, k05 _ _ h0⟩⟩))
      · exact fin rfl (.inl (.inr ⟨_, rfl, .inr ⟨_, k15 _ _ h1⟩⟩))
      · exact fin rfl (.inr ⟨_, _, rfl, k25 _ _ h2⟩)
      · exact fin rfl (.inl (.inr ⟨_, rfl, .inl ⟨_, k35 _ _ h3⟩⟩))
      · exact fin rfl (.inl (.inr ⟨_, rfl, .inr ⟨_, k45 _ _ h4⟩⟩))
      · exact fin rfl (.inr ⟨_, _, rfl, s6 _ _ h5⟩)
    · rintro σ H5 ⟨o, rfl, rfl⟩
      try walk_at "WP"
      refine ⟨_, rfl, .inl (.inl rfl), ?_⟩
      rw [show isWh (V.int 0) = true from rfl]
      refine ⟨_, _, rfl, rfl, ?_⟩
      try walk_at "WP"
      refine ⟨_, rfl, .inl (.inl rfl), ?_⟩
      rw [show isWh (V.int (-1)) = true from rfl]
      refine ⟨_, _, rfl, rfl, ?_⟩
      try walk_at "WP"
      refine ⟨_, rfl, .inl (.inl rfl), ?_⟩
      rw [show isWh (V.int 100000000000000000000000000000000000000000000000000000000000) = true from rfl]
      exact ⟨_, _, rfl, rfl, q _⟩
end

theorem ln1 {α : Type} {us : List α} (h : us.length = 1) : ∃ a0, us = [a0] := match us, h with | [a0], _ => ⟨a0, rfl⟩
theorem ln2 {α : Type} {us : List α} (h : us.length = 2) : ∃ a0 a1, us = [a0, a1] := match us, h with | [a0, a1], _ => ⟨a0, a1, rfl⟩
theorem all_mk {l : PySem.W.OpenLaw} {w : World} {K : PySem.W.Frag} {h : Heap} {mg : Str → Option Value} {fa : Addr} (X : K.In h) (G : h.Ns mainGlobals mg) (hfa : mg "law" = some (.ref fa))
    {f1 : Addr} {od1 an1 : Option Addr} {sl1 : Array (Option Value)} {oc1 kV1 dc1 pm1 cd1 ct1 : Value} {f2 : Addr} {od2 an2 : Option Addr} {sl2 : Array (Option Value)} {oc2 kV2 dc2 pm2 cd2 ct2 : Value} {f3 : Addr} {od3 an3 : Option Addr} {sl3 : Array (Option Value)} {oc3 kV3 dc3 pm3 cd3 ct3 : Value} {f4 : Addr} {od4 an4 : Option Addr} {sl4 : Array (Option Value)} {oc4 kV4 dc4 pm4 cd4 ct4 : Value} {f5 : Addr} {od5 an5 : Option Addr} {sl5 : Array (Option Value)} {oc5 kV5 dc5 pm5 cd5 ct5 : Value}
    (a1 : PySem.W.nsIn K mainGlobals "is_whole" = some (some (.ref f1))) (l1 : K.lookup f1 = some ⟨oc1, od1, .func (PySem.W.fnOf "is_whole" "is_whole" (defArgs s_is_whole) (defBody s_is_whole) (defScope s_is_whole) .none kV1 dc1 pm1 an1 cd1 ct1), sl1⟩) (c1 : PySem.W.codeIn K cd1 "is_whole" = true) (k1 : PySem.W.keepIn K (.ref f1) = true)
    (a2 : PySem.W.nsIn K mainGlobals "_law_feed" = some (some (.ref f2))) (l2 : K.lookup f2 = some ⟨oc2, od2, .func (PySem.W.fnOf "_law_feed" "_law_feed" (defArgs s_l_feed) (defBody s_l_feed) (defScope s_l_feed) .none kV2 dc2 pm2 an2 cd2 ct2), sl2⟩) (c2 : PySem.W.codeIn K cd2 "_law_feed" = true) (k2 : PySem.W.keepIn K (.ref f2) = true)
    (a3 : PySem.W.nsIn K mainGlobals "_law_take" = some (some (.ref f3))) (l3 : K.lookup f3 = some ⟨oc3, od3, .func (PySem.W.fnOf "_law_take" "_law_take" (defArgs s_l_take) (defBody s_l_take) (defScope s_l_take) .none kV3 dc3 pm3 an3 cd3 ct3), sl3⟩) (c3 : PySem.W.codeIn K cd3 "_law_take" = true) (k3 : PySem.W.keepIn K (.ref f3) = true)
    (a4 : PySem.W.nsIn K mainGlobals "_law_thing" = some (some (.ref f4))) (l4 : K.lookup f4 = some ⟨oc4, od4, .func (PySem.W.fnOf "_law_thing" "_law_thing" (defArgs s_l_thing) (defBody s_l_thing) (defScope s_l_thing) .none kV4 dc4 pm4 an4 cd4 ct4), sl4⟩) (c4 : PySem.W.codeIn K cd4 "_law_thing" = true) (k4 : PySem.W.keepIn K (.ref f4) = true)
    (a5 : PySem.W.nsIn K mainGlobals "law" = some (some (.ref f5))) (l5 : K.lookup f5 = some ⟨oc5, od5, .func (PySem.W.fnOf "law" "law" (defArgs s_law) (defBody s_law) (defScope s_law) .none kV5 dc5 pm5 an5 cd5 ct5), sl5⟩) (c5 : PySem.W.codeIn K cd5 "law" = true) (k5 : PySem.W.keepIn K (.ref f5) = true)
    (z1 : PySem.W.nsIn K mainGlobals "abs" = some none)
    (z2 : PySem.W.nsIn K mainGlobals "bool" = some none)
    (z3 : PySem.W.nsIn K mainGlobals "dict" = some none)
    (z4 : PySem.W.nsIn K mainGlobals "int" = some none)
    (z5 : PySem.W.nsIn K mainGlobals "isinstance" = some none)
    (z6 : PySem.W.nsIn K mainGlobals "len" = some none)
    (z7 : PySem.W.nsIn K mainGlobals "min" = some none)
    (z8 : PySem.W.nsIn K mainGlobals "range" = some none)
    (z9 : PySem.W.nsIn K mainGlobals "tuple" = some none)
    : ∃ fd : FuncData, (∀ (s : Shared) (v : Value), BindsTo s fd ⟨[v], []⟩ [("_law_script", v)]) ∧ ∀ base : Heap, K.In base → base.Ns mainGlobals mg → FnOk l.prog w K mg base CX0 20 fa fd ["_law_script"] (spLaw K) := by
  have e := hfa.symm.trans (PySem.W.mg_of X G a5)
  cases e
  have F1 := fun_mk (st := s_is_whole) l1 c1 k1
  have b1 := F1.binds (ps := ["thing"]) fun _ _ _ _ _ _ us hl => by obtain ⟨a0_, rfl⟩ := ln1 (us := us) hl; rfl
  have F2 := fun_mk (st := s_l_feed) l2 c2 k2
  have b2 := F2.binds (ps := ["_law_script", "_law_k"]) fun _ _ _ _ _ _ us hl => by obtain ⟨a0_, a1_, rfl⟩ := ln2 (us := us) hl; rfl
  have F3 := fun_mk (st := s_l_take) l3 c3 k3
  have b3 := F3.binds (ps := ["_law_feed_here", "_law_many"]) fun _ _ _ _ _ _ us hl => by obtain ⟨a0_, a1_, rfl⟩ := ln2 (us := us) hl; rfl
  have F4 := fun_mk (st := s_l_thing) l4 c4 k4
  have b4 := F4.binds (ps := ["_law_feed_here", "_law_deep_down"]) fun _ _ _ _ _ _ us hl => by obtain ⟨a0_, a1_, rfl⟩ := ln2 (us := us) hl; rfl
  have F5 := fun_mk (st := s_law) l5 c5 k5
  have b5 := F5.binds (ps := ["_law_script"]) fun _ _ _ _ _ _ us hl => by obtain ⟨a0_, rfl⟩ := ln1 (us := us) hl; rfl
  have T : Txt K mg := ⟨⟨PySem.W.mg_none_of X G z1, PySem.W.mg_none_of X G z2, PySem.W.mg_none_of X G z3, PySem.W.mg_none_of X G z4, PySem.W.mg_none_of X G z5, PySem.W.mg_none_of X G z6, PySem.W.mg_none_of X G z7, PySem.W.mg_none_of X G z8, PySem.W.mg_none_of X G z9⟩, ⟨_, _, F1, PySem.W.mg_of X G a1, b1⟩, ⟨_, _, F2, PySem.W.mg_of X G a2, b2⟩, ⟨_, _, F3, PySem.W.mg_of X G a3, b3⟩, ⟨_, _, F4, PySem.W.mg_of X G a4, b4⟩, ⟨_, _, F5, PySem.W.mg_of X G a5, b5⟩⟩
  refine ⟨PySem.W.fnOf "law" "law" (defArgs s_law) (defBody s_law) (defScope s_law) .none kV5 dc5 pm5 an5 cd5 ct5, fun s v => .of_eq rfl, fun base _ _ => ?_⟩
  exact ok_law T F5
theorem walk {l : PySem.W.OpenLaw} {q : Program} {loose : List Str} {XP : (Str → Option Value) → Heap → Prop} {YP : World → Heap → Prop} {d : DefRec} {K : Params → PySem.W.Frag} (hn : l.most = some 63) (hdf : d.params.defaults = [])
    (hY : ∀ (w : World) (h : Heap), YP w h → (K w.params).In h)
    (F : ∀ (w : World) (mg : Str → Option Value) (fa : Addr) (h : Heap), (K w.params).In h → h.Ns mainGlobals mg → mg d.name = some (.ref fa) →
      ∃ fd : FuncData, (∀ (s : Shared) (u : Value), BindsTo s fd ⟨[u], []⟩ [("_law_script", u)]) ∧ ∀ base : Heap, (K w.params).In base → base.Ns mainGlobals mg → FnOk l.prog w (K w.params) mg base CX0 20 fa fd ["_law_script"] (spLaw (K w.params))) :
    PySem.W.WalkO q loose XP YP l.row.toRowW d [] (fun f vs => PySem.call f vs) :=
  L2.walk_of (n := 63) (k := 20) (x := "_law_script") (CX := fun _ => CX0) (sp := fun w => spLaw (K w.params)) hn (by decide) hdf ⟨rfl, by decide, by decide⟩ hY F (fun _ _ a ns hl hO hS => ⟨a, ns, rfl, scr_of hO hS, hl, fun _ => rfl⟩) fun _ _ _ _ _ z => z
end Law
open PySem PySem.W PyProof.Rows
set_option maxRecDepth 100000 in
set_option maxHeartbeats 0 in
theorem PySem.Challenge.cw_shiftsums_k03_whole_numbers_holds : PySem.Challenge.rw_shiftsums_k03_whole_numbers.Holds := by
  w_on; o_law; k_head; (case hw => w_witness2)
  k_fill
  refine Law.walk (l := PySem.Challenge.rw_shiftsums_k03_whole_numbers) rfl rfl (fun w h Y => PySem.W.kIn_of Y) ?F
  case F =>
    intro w mg fa h KX G hmg
    refine' Law.all_mk KX G hmg ?a1 ?l1 ?c1 ?k1 ?a2 ?l2 ?c2 ?k2 ?a3 ?l3 ?c3 ?k3 ?a4 ?l4 ?c4 ?k4 ?a5 ?l5 ?c5 ?k5 ?z1 ?z2 ?z3 ?z4 ?z5 ?z6 ?z7 ?z8 ?z9
    (case a1 => k_is); (case l1 => k_is); (case c1 => k_is); (case k1 => k_is)
    (case a2 => k_is); (case l2 => k_is); (case c2 => k_is); (case k2 => k_is)
    (case a3 => k_is); (case l3 => k_is); (case c3 => k_is); (case k3 => k_is)
    (case a4 => k_is); (case l4 => k_is); (case c4 => k_is); (case k4 => k_is)
    (case a5 => k_is); (case l5 => k_is); (case c5 => k_is); (case k5 => k_is)
    (case z1 => k_is); (case z2 => k_is); (case z3 => k_is); (case z4 => k_is)
    (case z5 => k_is); (case z6 => k_is); (case z7 => k_is); (case z8 => k_is)
    (case z9 => k_is)
end
