import PyProof.Rows.All
import Wide.All
import OpenK.AllK
import Wide.FinOn
import Lean
import PyProof.EqAt
import PyProof.EqKinds
import PyProof.TupleCall
import PyProof.NeKinds
import KE.KMinBuiltin
import PyProof.Rows.CallKwBuiltin
import KE.KDictList
import PyProof.ZipIter
import PyProof.EnumFor
import PyProof.EnumMake
import PyProof.EnumStmt
import PyProof.Rows.Range3
import KE.KItemsList
import PyProof.ListRange
import KE.KIsAll
import PyProof.TupleIter
import PyProof.StationsW
import OpenK.KOwn
import PyProof.RulesDel
import PyProof.ExcArgsOwn
import PyProof.ExcAttrAll.ValueError
import KE.IntBitsLaws
import PyProof.IsRules
import PyProof.SetKind
import PyProof.Rows.SetFrom
import PyProof.CollectWalk
import PyProof.ListNew
import PyProof.Seq
import KE.KSortedM
import PyProof.InstStoreFacts
import PyProof.ExcInit
import KE.KSortTup
import PySem.Challenge.RW_shiftsums_k42_webs_turned_about
section
set_option Elab.async false
set_option linter.all false
set_option maxRecDepth 100000
namespace L2
open PySem PySem.Spec PyProof.Rows
abbrev Key := Sum Int Str
def keyIs : Key → Value → Bool
  | .inl k, v => Value.isInt k v
  | .inr x, v => Value.isStrOf x v
def keyH (w : World) : Key → Int
  | .inl k => hashInt k
  | .inr x => hashStr w x
theorem keyIs_shape : ∀ {k : Key} {v : Value}, keyIs k v = true → (∃ i t, k = Sum.inl i ∧ v = Value.int i t) ∨ (∃ x t, k = Sum.inr x ∧ v = Value.str x t)
  | .inl i, v, h => by
    obtain ⟨t, e⟩ := Value.isInt_shape (k := i) (v := v) h
    exact .inl ⟨i, t, rfl, e⟩
  | .inr x, v, h => by
    obtain ⟨t, e⟩ := Value.isStrOf_shape (x := x) (v := v) h
    exact .inr ⟨x, t, rfl, e⟩
theorem keyIs_int (i : Int) (t : Tok) : keyIs (.inl i) (.int i t) = true := by simp [keyIs, Value.isInt]
theorem keyIs_str (x : Str) (t : Tok) : keyIs (.inr x) (.str x t) = true := by simp [keyIs, Value.isStrOf]
theorem key_ll (a b : Int) : decide ((Sum.inl a : Key) = Sum.inl b) = (a == b) := by
  by_cases e : a = b
  · subst e; simp
  · have h : ¬ (Sum.inl a : Key) = Sum.inl b := fun q => e (Sum.inl.inj q)
    rw [decide_eq_false h]
    exact (beq_eq_false_iff_ne.mpr e).symm
theorem key_rr (a b : Str) : decide ((Sum.inr a : Key) = Sum.inr b) = decide (a = b) := by
  by_cases e : a = b
  · subst e; simp
  · have h : ¬ (Sum.inr a : Key) = Sum.inr b := fun q => e (Sum.inr.inj q)
    rw [decide_eq_false h, decide_eq_false e]
theorem key_lr (a : Int) (b : Str) : decide ((Sum.inl a : Key) = Sum.inr b) = false := decide_eq_false (fun q => nomatch q)
theorem key_rl (a : Str) (b : Int) : decide ((Sum.inr a : Key) = Sum.inl b) = false := decide_eq_false (fun q => nomatch q)
def mixKind (prog : Program) (w : World) : PySem.KeyKind prog w Key where
  is := keyIs
  hash := keyH w
  inj := fun v a b ha hb => by
    rcases keyIs_shape ha with ⟨i, t, rfl, rfl⟩ | ⟨x, t, rfl, rfl⟩
    · rcases keyIs_shape hb with ⟨j, u, rfl, e⟩ | ⟨y, u, rfl, e⟩
      · injection e with e1 _; rw [e1]
      · exact nomatch e
    · rcases keyIs_shape hb with ⟨j, u, rfl, e⟩ | ⟨y, u, rfl, e⟩
      · exact nomatch e
      · injection e with e1 _; rw [e1]
  byValue := fun k v h => by
    rcases keyIs_shape h with ⟨i, t, rfl, rfl⟩ | ⟨x, t, rfl, rfl⟩ <;> rfl
  pyHash := fun hv h => by
    rcases keyIs_shape hv with ⟨i, t, rfl, rfl⟩ | ⟨x, t, rfl, rfl⟩
    · exact wpAny_pyHash_int h
    · exact wpAny_pyHash_str h
  eqBool := fun hu hv h => by
    rcases keyIs_shape hu with ⟨i, t, rfl, rfl⟩ | ⟨x, t, rfl, rfl⟩
    · rcases keyIs_shape hv with ⟨j, u, rfl, rfl⟩ | ⟨y, u, rfl, rfl⟩
      · rw [key_ll] at h; exact wpAny_eqBool_int h
      · rw [key_lr] at h; exact SeqAt.EqAt.int_str i t y u _ _ _ _ h
    · rcases keyIs_shape hv with ⟨j, u, rfl, rfl⟩ | ⟨y, u, rfl, rfl⟩
      · rw [key_rl] at h; exact SeqAt.EqAt.str_int x t j u _ _ _ _ h
      · rw [key_rr] at h; exact wpAny_eqBool_str h
  «strs» := fun k x t v h => by
    rcases keyIs_shape h with ⟨i, u, rfl, e⟩ | ⟨y, u, rfl, e⟩
    · exact nomatch e
    · injection e with e1 _
      subst e1
      cases v <;> rfl
theorem mixKind_int (prog : Program) (w : World) (i : Int) (t : Tok) : (mixKind prog w).is (.inl i) (.int i t) = true := keyIs_int i t
theorem mixKind_str (prog : Program) (w : World) (x : Str) (t : Tok) : (mixKind prog w).is (.inr x) (.str x t) = true := keyIs_str x t
end L2
namespace L2
open PySem PySem.Spec PyProof.Rows
inductive V where
  | non | bl (b : Bool) | int (i : Int) | str (x : Str) | byt (b : Array UInt8) | flt (b : UInt64) | ref (a : Addr) | ty (n : String)
  deriving DecidableEq
def RelV : V → Value → Prop
  | .non, u => u = Value.none
  | .bl b, u => u = Value.bool b
  | .int i, u => ∃ t, u = Value.int i t
  | .str x, u => ∃ t, u = Value.str x t
  | .byt b, u => ∃ t, u = Value.bytes b t
  | .flt b, u => ∃ t, u = Value.float b t
  | .ref a, u => u = Value.ref a
  | .ty n, u => u = Value.type n
abbrev Vals : List V → List Value → Prop := Paired RelV
theorem Vals.length {xs : List V} {us : List Value} (r : Vals xs us) : xs.length = us.length := Paired.length r
theorem Vals.get : ∀ {xs : List V} {us : List Value} {i : Nat} {x : V}, Vals xs us → xs[i]? = some x → ∃ u, us[i]? = some u ∧ RelV x u
  | _, _, _, _, .nil, e => by simp at e
  | _, _, 0, _, .cons r _, e => by simp at e; subst e; exact ⟨_, rfl, r⟩
  | _, _, i + 1, x, .cons _ t, e => by
    obtain ⟨u, h1, h2⟩ := Vals.get (i := i) (x := x) t (by simpa using e)
    exact ⟨u, by simpa using h1, h2⟩
theorem Vals.set {x : V} {u : Value} (r : RelV x u) : ∀ {xs : List V} {us : List Value} (i : Nat), Vals xs us → Vals (xs.set i x) (us.set i u)
  | _, _, _, .nil => .nil
  | _, _, 0, .cons _ t => .cons r t
  | _, _, i + 1, .cons q t => .cons q (Vals.set r i t)
theorem Vals.append : ∀ {xs ys : List V} {us ws : List Value}, Vals xs us → Vals ys ws → Vals (xs ++ ys) (us ++ ws)
  | _, _, _, _, .nil, s => s
  | _, _, _, _, .cons r t, s => .cons r (Vals.append t s)
theorem Vals.take : ∀ {xs : List V} {us : List Value} (n : Nat), Vals xs us → Vals (xs.take n) (us.take n)
  | _, _, 0, _ => .nil
  | _, _, _ + 1, .nil => .nil
  | _, _, n + 1, .cons r t => .cons r (Vals.take n t)
theorem Vals.drop : ∀ {xs : List V} {us : List Value} (n : Nat), Vals xs us → Vals (xs.drop n) (us.drop n)
  | _, _, 0, r => r
  | _, _, _ + 1, .nil => .nil
  | _, _, n + 1, .cons _ t => Vals.drop n t
def RelO : Option V → Option Value → Prop
  | some v, some u => RelV v u
  | none, none => True
  | _, _ => False
def KV {κ : Type} : List (κ × V) → List (κ × Value) → Prop := Paired fun (p : κ × V) (q : κ × Value) => p.1 = q.1 ∧ RelV p.2 q.2
def kV : Key → V
  | .inl i => .int i
  | .inr x => .str x
inductive HO where
  | lst (xs : List V)
  | tup (xs : List V)
  | dK (kvs : List (Key × V)) | dT (kvs : List (List Key × V))
  | set (S : Int → Bool) (n : Nat)
  | ins (C dx : Addr) (fs : List (Str × V))
  | own (x : Addr)
  | xd (fs : List (Str × V))
  | met (f x : Addr)
  | rng (lo hi : Int)
  | frz (o : Obj) (u : HO)
  | tbl (ps : Array Value)
  | ext (φ : Heap → Prop)
abbrev Hp := Addr → Option HO
def upd (H : Hp) (a : Addr) (o : HO) : Hp := fun b => if b = a then some o else H b
theorem upd_same {H : Hp} {a : Addr} {o : HO} : upd H a o a = some o := by unfold upd; rw [if_pos rfl]
theorem upd_ne {H : Hp} {a b : Addr} {o : HO} (h : b ≠ a) : upd H a o b = H b := by unfold upd; rw [if_neg h]
theorem upd_upd {H : Hp} {a : Addr} {o u : HO} : upd (upd H a o) a u = upd H a u := by
  funext b; unfold upd; split <;> rfl
theorem ne_of {H : Hp} {a b : Addr} {o u : HO} (h : H a = some o) (h' : H b = some u) (d : o ≠ u) : a ≠ b := by
  intro e; subst e; rw [h] at h'; exact d (Option.some.inj h')
theorem ne_of_none {H : Hp} {a b : Addr} {o : HO} (h : H a = some o) (h' : H b = none) : a ≠ b := by
  intro e; subst e; rw [h] at h'; cases h'
section
variable (P : Program) (w : World)
def ObjOk (H : Hp) (h : Heap) (a : Addr) : HO → Prop
  | .lst xs => xs.length ≤ sizeLine ∧ ∃ (its : List Value) (n : Nat), Vals xs its ∧ h.get? a = some { cls := .type "list", data := .seq its.toArray n }
  | .tup xs => xs.length ≤ sizeLine ∧ ∃ its : List Value, Vals xs its ∧ IsTup h a its.toArray
  | .dK kvs => kvs.length ≤ sizeLine ∧ (a == sysModules) = false ∧ ∃ vs, KV kvs vs ∧ h.DictOf (mixKind P w) a vs
  | .dT kvs => kvs.length ≤ sizeLine ∧ (a == sysModules) = false ∧ ∃ xs : List (List Key × Addr × Value),
      Paired (fun (p : List Key × V) (q : List Key × Addr × Value) => p.1 = q.1 ∧ H q.2.1 = some (.tup (p.1.map kV)) ∧ RelV p.2 q.2.2) kvs xs ∧
      ∃ o es ep, h.get? a = some o ∧ o.ExactDict ∧ o.data = .dict es ep ∧ es.toList = xs.map (entryOfKey (tupleKind (mixKind P w))) ∧ (xs.map (·.1)).Nodup
  | .set S n => h.SetOf (intKind P w) a S n
  | .ins C dx fs => H dx = some (.own a) ∧ fs.length ≤ 1000 ∧ dx ≠ a ∧ h.get? a = some (PySem.W.instObj C dx) ∧
      ∃ mA, h.Ns1 dx mA ∧ (∀ f, RelO (fs.lookup f) (mA f)) ∧ PySem.Within mA (fs.map (·.1))
  | .own _ => ∃ o, h.get? a = some o
  | .xd fs => ∃ mA, h.Ns1 a mA ∧ ∀ f, RelO (fs.lookup f) (mA f)
  | .rng lo hi => ∃ t u v, h.get? a = some { cls := .type "range", data := .fields #[.int lo t, .int hi u, .int 1 v] }
  | .frz o u => h.get? a = some o ∧ ObjOk H h a u
  | .tbl ps => h.get? a = some { cls := .none, data := .fields ps }
  | .met f x => h.get? a = some (PySem.W.methodObj (.ref f) (.ref x))
  | .ext φ => φ h ∧ (∃ o, h.get? a = some o) ∧ ∀ h1 h2 : Heap, φ h1 → (∀ o, h1.get? a = some o → h2.get? a = some o) → φ h2
def HOk (H : Hp) (h : Heap) : Prop := ∀ a o, H a = some o → ObjOk P w H h a o
end
section
variable {P : Program} {w : World} {H H' : Hp} {h h' : Heap} {a : Addr} {o : HO}
theorem ObjOk.lt (x : ObjOk P w H h a o) : a < h.objs.size := by
  cases o with
  | lst xs => obtain ⟨_, _, _, _, e⟩ := x; exact Heap.lt_size e
  | tup xs => obtain ⟨_, _, _, p⟩ := x; exact p.lt
  | dK kvs => obtain ⟨_, _, _, _, o, _, _, e, _⟩ := x; exact Heap.lt_size e
  | dT kvs => obtain ⟨_, _, _, _, o, _, _, e, _⟩ := x; exact Heap.lt_size e
  | set S n => obtain ⟨o, _, _, _, e, _⟩ := x; exact Heap.lt_size e
  | ins C dx fs => obtain ⟨_, _, _, e, _⟩ := x; exact Heap.lt_size e
  | own y => obtain ⟨_, e⟩ := x; exact Heap.lt_size e
  | xd fs => obtain ⟨_, ⟨_, _, _, e, _⟩, _⟩ := x; exact Heap.lt_size e
  | rng lo hi => obtain ⟨_, _, _, e⟩ := x; exact Heap.lt_size e
  | frz ob u => obtain ⟨e, _⟩ := x; exact Heap.lt_size e
  | tbl ps => exact Heap.lt_size (show h.get? a = some _ from x)
  | met f y => exact Heap.lt_size (show h.get? a = some _ from x)
  | ext φ => obtain ⟨_, ⟨_, e⟩, _⟩ := x; exact Heap.lt_size e
theorem Paired.mapP {α β : Type} {F G : α → β → Prop} : ∀ {l₁ : List α} {l₂ : List β}, Paired F l₁ l₂ → (∀ a b, F a b → G a b) → Paired G l₁ l₂
  | _, _, .nil, _ => .nil
  | _, _, .cons r t, f => .cons (f _ _ r) (Paired.mapP t f)
theorem ObjOk.stay (x : ObjOk P w H h a o) (k : ∀ b u, (b = a ∨ H b = some (.own a)) → h.get? b = some u → h'.get? b = some u)
    (ho : ∀ b, H b = some (.own a) → H' b = some (.own a)) (ht : ∀ b xs, H b = some (.tup xs) → H' b = some (.tup xs)) : ObjOk P w H' h' a o := by
  induction o with
  | lst xs => obtain ⟨z, its, n, r, e⟩ := x; exact ⟨z, its, n, r, k _ _ (.inl rfl) e⟩
  | tup xs => obtain ⟨z, its, r, ob, e, c⟩ := x; exact ⟨z, its, r, ob, k _ _ (.inl rfl) e, c⟩
  | dK kvs => obtain ⟨z, y, vs, r, ob, es, ep, e, c⟩ := x; exact ⟨z, y, vs, r, ob, es, ep, k _ _ (.inl rfl) e, c⟩
  | dT kvs =>
    obtain ⟨z, y, xs, r, ob, es, ep, e, c⟩ := x
    exact ⟨z, y, xs, Paired.mapP r fun p q z => ⟨z.1, ht _ _ z.2.1, z.2.2⟩, ob, es, ep, k _ _ (.inl rfl) e, c⟩
  | set S n => obtain ⟨ob, es, ep, t, e, c⟩ := x; exact ⟨ob, es, ep, t, k _ _ (.inl rfl) e, c⟩
  | ins C dx fs =>
    obtain ⟨d, z, ne, e, mA, ⟨od, es, ep, e2, c⟩, r⟩ := x
    exact ⟨ho _ d, z, ne, k _ _ (.inl rfl) e, mA, ⟨od, es, ep, k _ _ (.inr d) e2, c⟩, r⟩
  | own y => obtain ⟨ob, e⟩ := x; exact ⟨ob, k _ _ (.inl rfl) e⟩
  | xd fs => obtain ⟨mA, ⟨od, es, ep, e, c⟩, r⟩ := x; exact ⟨mA, ⟨od, es, ep, k _ _ (.inl rfl) e, c⟩, r⟩
  | rng lo hi => obtain ⟨t, u, v, e⟩ := x; exact ⟨t, u, v, k _ _ (.inl rfl) e⟩
  | frz ob u ih => obtain ⟨e, q⟩ := x; exact ⟨k _ _ (.inl rfl) e, ih q⟩
  | tbl ps =>
    have e : h.get? a = some { cls := .none, data := .fields ps } := x
    show h'.get? a = some { cls := .none, data := .fields ps }
    exact k a _ (.inl rfl) e
  | met f y =>
    have e : h.get? a = some (PySem.W.methodObj (.ref f) (.ref y)) := x
    show h'.get? a = some (PySem.W.methodObj (.ref f) (.ref y))
    exact k a _ (.inl rfl) e
  | ext φ => obtain ⟨p, ⟨o, e⟩, st⟩ := x; exact ⟨st _ _ p fun o q => k _ _ (.inl rfl) q, ⟨o, k _ _ (.inl rfl) e⟩, st⟩
theorem HOk.lt (x : HOk P w H h) (e : H a = some o) : a < h.objs.size := (x a o e).lt
theorem HOk.fresh (x : HOk P w H h) (e : h.objs.size ≤ a) : H a = none := by
  cases q : H a with
  | none => rfl
  | some u => exact absurd (Nat.lt_of_lt_of_le (x.lt q) e) (Nat.lt_irrefl _)
theorem HOk.kept (x : HOk P w H h) (k : ∀ b u, h.get? b = some u → h'.get? b = some u) : HOk P w H h' := fun a o e =>
  (x a o e).stay (fun b u _ q => k b u q) (fun _ q => q) fun _ _ q => q
theorem HOk.laid (x : HOk P w H h) (k : ∀ b u, h.get? b = some u → h'.get? b = some u) (hp : h.objs.size ≤ a) (new : ObjOk P w (upd H a o) h' a o) : HOk P w (upd H a o) h' := fun b u e => by
  have hn := x.fresh hp
  by_cases hb : b = a
  · subst hb; rw [upd_same] at e; cases e; exact new
  · rw [upd_ne hb] at e
    exact (x b u e).stay (fun c v _ q => k c v q) (fun c q => by rw [upd_ne (ne_of_none q hn)]; exact q) fun c xs q => by rw [upd_ne (ne_of_none q hn)]; exact q
end
def Rd (H : Hp) (a : Addr) (u : HO) : Prop := H a = some u ∨ ∃ o, H a = some (.frz o u)
theorem Rd.ok {P : Program} {w : World} {H : Hp} {h : Heap} {a : Addr} {u : HO} (r : Rd H a u) (x : HOk P w H h) : ObjOk P w H h a u := by
  rcases r with r | ⟨o, r⟩
  · exact x a u r
  · obtain ⟨_, q⟩ := x a _ r
    exact q
def Mut : Option HO → Prop
  | some (.lst _) => True
  | some (.dK _) => True
  | some (.dT _) => True
  | some (.set _ _) => True
  | some (.ins _ _ _) => True
  | some (.ext _) => True
  | _ => False
section
variable {P : Program} {w : World} {H : Hp} {h h' : Heap} {x e : Addr} {o' : HO}
theorem HOk.write (ok : HOk P w H h) (mu : Mut (H x)) (he : e = x ∨ H e = some (.own x)) (k : ∀ b u, b ≠ e → h.get? b = some u → h'.get? b = some u) (heo : ∃ u, h'.get? e = some u)
    (new : ObjOk P w (upd H x o') h' x o') : HOk P w (upd H x o') h' := fun b u q => by
  have nown : ∀ c y, H c = some (.own y) → c ≠ x := fun c y r z => by subst z; rw [r] at mu; exact mu
  have ntup : ∀ c xs, H c = some (.tup xs) → c ≠ x := fun c xs r z => by subst z; rw [r] at mu; exact mu
  by_cases hb : b = x
  · subst hb; rw [upd_same] at q; cases q; exact new
  · rw [upd_ne hb] at q
    by_cases hbe : b = e
    · have q' : H b = some (.own x) := by
        rcases he with z | z
        · exact absurd (hbe.trans z) hb
        · rw [hbe]; exact z
      rw [q] at q'; cases q'
      obtain ⟨v, hv⟩ := heo
      exact ⟨v, by rw [hbe]; exact hv⟩
    · refine (ok b u q).stay (fun c v hc r => k c v ?_ r) (fun c r => by rw [upd_ne (nown c b r)]; exact r) fun c xs r => by rw [upd_ne (ntup c xs r)]; exact r
      rcases hc with rfl | hc
      · exact hbe
      · rintro rfl
        rcases he with z | z
        · exact nown c b hc z
        · rw [hc] at z; cases z; exact hb rfl
end
structure Un (fs ex : List Addr) (H H' : Hp) (h h' : Heap) : Prop where
  keep : ∀ b o, h.get? b = some o → H b = none → b ∉ fs → b ∉ ex → h'.get? b = some o
  slot : ∀ b o, h.get? b = some o → H b = none → b ∈ fs → b ∉ ex → ∃ sl, h'.get? b = some { o with slots := sl }
  free : ∀ b o, h.get? b = some o → H b = none → b ∉ ex → H' b = none
  there : ∀ b o, h.get? b = some o → b ∉ ex → ∃ o', h'.get? b = some o'
  tups : ∀ b xs, H b = some (.tup xs) → H' b = some (.tup xs)
  frzs : ∀ b o u, H b = some (.frz o u) → H' b = some (.frz o u)
  tbls : ∀ b ps, H b = some (.tbl ps) → ∃ more, H' b = some (.tbl (ps ++ more))
section
variable {fs fs' ex ex' : List Addr} {H H1 H2 : Hp} {h h1 h2 h' : Heap} {a x e : Addr} {o : HO}
theorem Un.any (u : Un fs ex H H1 h h1) {b : Addr} {ob : Obj} (q : h.get? b = some ob) (n : H b = none) (hx : b ∉ ex) : ∃ sl, h1.get? b = some { ob with slots := sl } := by
  by_cases hb : b ∈ fs
  · exact u.slot b ob q n hb hx
  · exact ⟨ob.slots, u.keep b ob q n hb hx⟩
theorem Un.kept (k : ∀ b u, h.get? b = some u → h'.get? b = some u) : Un fs ex H H h h' :=
  ⟨fun b ob q _ _ _ => k b ob q, fun b ob q _ _ _ => ⟨ob.slots, k b ob q⟩, fun _ _ _ n _ => n, fun b ob q _ => ⟨ob, k b ob q⟩, fun _ _ q => q, fun _ _ _ q => q, fun _ ps q => ⟨#[], by rw [q]; simp⟩⟩
theorem Un.refl : Un fs ex H H h h := Un.kept fun _ _ q => q
theorem Un.laid (k : ∀ b u, h.get? b = some u → h'.get? b = some u) (hp : h.objs.size ≤ a) (hn : H a = none) : Un fs ex H (upd H a o) h h' where
  keep := fun b u q _ _ _ => k b u q
  slot := fun b u q _ _ _ => ⟨u.slots, k b u q⟩
  free := fun b u q n _ => by rw [upd_ne (Nat.ne_of_lt (Nat.lt_of_lt_of_le (Heap.lt_size q) hp))]; exact n
  there := fun b u q _ => ⟨u, k b u q⟩
  tups := fun b xs q => by rw [upd_ne (ne_of_none q hn)]; exact q
  frzs := fun b u xs q => by rw [upd_ne (ne_of_none q hn)]; exact q
  tbls := fun b ps q => ⟨#[], by rw [upd_ne (ne_of_none q hn), q]; simp⟩
theorem Un.write (mu : Mut (H x)) (he : e = x ∨ H e = some (.own x)) (k : ∀ b u, b ≠ e → h.get? b = some u → h'.get? b = some u) (heo : ∃ u, h'.get? e = some u) : Un fs ex H (upd H x o) h h' := by
  have hx : ∀ b, H b = none → b ≠ x := fun b n z => by subst z; rw [n] at mu; exact mu
  have hb : ∀ b, H b = none → b ≠ e := fun b n z => by
    subst z
    rcases he with r | r
    · exact hx b n r
    · rw [n] at r; cases r
  have hm : ∀ b u, H b = some u → ¬ Mut (some u) → b ≠ x := fun b u q nm z => by subst z; rw [q] at mu; exact nm mu
  refine ⟨fun b u q n _ _ => k b u (hb b n) q, fun b u q n _ _ => ⟨u.slots, k b u (hb b n) q⟩, fun b u q n _ => by rw [upd_ne (hx b n)]; exact n, fun b u q _ => ?_,
    fun b xs q => by rw [upd_ne (hm b _ q fun z => z)]; exact q, fun b u xs q => by rw [upd_ne (hm b _ q fun z => z)]; exact q, fun b ps q => ⟨#[], by rw [upd_ne (hm b _ q fun z => z), q]; simp⟩⟩
  by_cases hbe : b = e
  · subst hbe; exact heo
  · exact ⟨u, k b u hbe q⟩
end
def trk (h : Heap) (H : Hp) : List Addr := (List.range h.objs.size).filter fun a => (H a).isSome
def hidT (h : Heap) (H : Hp) : Heap := PySem.W.hideAll h (trk h H)
theorem hidT_size (h : Heap) (H : Hp) : (hidT h H).objs.size = h.objs.size := PySem.W.hideAll_size _ _
theorem hidT_get {h : Heap} {H : Hp} {b : Addr} {o : Obj} (e : h.get? b = some o) (n : H b = none) : (hidT h H).get? b = some o :=
  PySem.W.hideAll_get _ e fun hm => by
    have q : (H b).isSome = true := (List.mem_filter.mp hm).2
    rw [n] at q; simp at q
theorem of_hidT {h : Heap} {H : Hp} {b : Addr} {o : Obj} (e : (hidT h H).get? b = some o) : h.get? b = some o ∧ H b = none := by
  have e' : h.get? b = some o := PySem.W.of_hideAll (trk h H) e
  refine ⟨e', ?_⟩
  cases q : H b with
  | none => rfl
  | some x =>
    have hm : b ∈ trk h H := List.mem_filter.mpr ⟨List.mem_range.mpr (Heap.lt_size e'), by simp [q]⟩
    have z : (hidT h H).get? b = none := PySem.W.hideAll_none (trk h H) hm
    rw [z] at e; cases e
def allNews (g h : Heap) (L : Addr) : List (Addr × Obj) := (List.range h.objs.size).filterMap fun a => if a = L ∨ (g.get? a).isSome = true then none else (h.get? a).map fun o => (a, o)
def rest (g h : Heap) (L d : Addr) : List (Addr × Obj) := (allNews g h L).filter fun p => decide (p.1 ≠ d)
end L2
namespace L2
open PySem PySem.Spec PyProof.Rows
structure Mod (K : PySem.W.Frag) (mg : Str → Option Value) (base : Heap) : Prop where
  kin : K.In base
  glob : base.Ns mainGlobals mg
  blt : ∃ mb, base.Ns builtinsNs mb ∧ ∀ x : Str, x ≠ "__name__" → mb x = bootBuiltins x
  nolimit : base.NoLimit
structure Cx where
  prog : Program
  w : World
  K : PySem.W.Frag
  mg : Str → Option Value
  base : Heap
  A : Around
  N : List Str
  s₀ : Shared
  H₀ : Hp
  env : Env
  outer : List Env
  stack : List Env
  ex : List Addr
  fn : Str → Bool
  calm : Bool
  pn : List (Addr × Obj)
  xe : Value → Shared → Prop
def frs (l : List Env) : List Addr := l.filterMap (·.frame)
abbrev Cx.fs (X : Cx) : List Addr := frs X.outer
def Vis (sc : Scope) (x : Str) : Prop := sc.names.lookup x = some .local ∨ sc.names.lookup x = some .cell ∨ sc.names.lookup x = some .free
def Loc (sc : Scope) (x : Str) : Prop := sc.names.lookup x = some .local ∨ sc.names.lookup x = some .cell
def Look (env : Env) (h : Heap) (m : Str → Option Value) (x : Str) (u : Value) : Prop :=
  (env.kindOf x = some .local ∧ m x = some u) ∨ ((env.kindOf x = some .cell ∨ env.kindOf x = some .free) ∧ ∃ c, env.cells.lookup x = some c ∧ h.IsCell c (some u))
structure Cx.Ok (X : Cx) : Prop where
  mod : Mod X.K X.mg X.base
  kind : X.env.scope.kind = .function
  glob : X.env.globals = mainGlobals
  blt : X.env.builtins = builtinsNs
  above : X.s₀.heap.objs.size ≤ X.env.locals
  inj : ∀ x y c, X.env.cells.lookup x = some c → X.env.cells.lookup y = some c → x = y
  has : ∀ x, (X.env.kindOf x = some .cell ∨ X.env.kindOf x = some .free) → ∃ c, X.env.cells.lookup x = some c
  cab : ∀ x c, X.fn x = true → X.env.cells.lookup x = some c → X.s₀.heap.objs.size ≤ c
  hd : X.calm = true → X.A.handled = none
  frames : X.A.frames = some X.stack
  stk : X.stack = X.outer ∨ (X.stack = X.env :: X.outer ∧ X.env.frame = some X.env.locals)
  exf : ∀ b ∈ X.ex, b ≠ X.env.locals ∧ ∀ x c, X.env.cells.lookup x = some c → c ≠ b
  bs : ∀ b o, X.base.get? b = some o → X.s₀.heap.get? b = some o ∧ X.H₀ b = none
  bsz : X.base.objs.size ≤ X.s₀.heap.objs.size
  noex : ∀ b o, X.base.get? b = some o → b ∉ X.ex
  exfs : ∀ b ∈ X.ex, b ∉ X.fs
  funs : X.s₀.heap.FunFrames X.base X.outer
  frf : ∀ b ∈ X.fs, X.H₀ b = none
structure Inv (X : Cx) (pins : List (Addr × Obj)) (σ : List (Option V)) (H : Hp) (s : Shared) : Prop where
  ok : X.Ok
  os : s.os = X.s₀.os
  bare : AllBare s.gens
  base : Un X.fs X.ex X.H₀ H X.s₀.heap s.heap
  loc : ∃ m, s.heap.Ns X.env.locals m ∧ ∀ (i : Nat) (x : Str) (v : V), X.N[i]? = some x → σ[i]? = some (some v) → Vis X.env.scope x → ∃ u, RelV v u ∧ Look X.env s.heap m x u
  cell : ∀ x c, X.env.cells.lookup x = some c → ∃ v, s.heap.IsCell c v
  free : H X.env.locals = none
  freeC : ∀ x c, X.env.cells.lookup x = some c → H c = none
  pin : ∀ p ∈ X.pn ++ pins, s.heap.get? p.1 = some p.2 ∧ H p.1 = none ∧ p.1 ≠ X.env.locals ∧ p.1 ∉ X.fs ∧ ∀ v, p.2.data ≠ .cell v
  hok : HOk X.prog X.w H s.heap
  len : σ.length = X.N.length
section
variable {X : Cx} {pins : List (Addr × Obj)} {σ : List (Option V)} {H H' : Hp} {s : Shared} {h' : Heap}
theorem Cx.Ok.nofr (ok : X.Ok) {b : Addr} {o : Obj} (e : X.base.get? b = some o) : b ∉ X.fs := fun hb => by
  have := (ok.funs.mem hb).1
  rw [e] at this; cases this
theorem Inv.bs (I : Inv X pins σ H s) : ∀ b o, X.base.get? b = some o → s.heap.get? b = some o ∧ H b = none := fun b o e =>
  ⟨I.base.keep b o (I.ok.bs b o e).1 (I.ok.bs b o e).2 (I.ok.nofr e) (I.ok.noex b o e), I.base.free b o (I.ok.bs b o e).1 (I.ok.bs b o e).2 (I.ok.noex b o e)⟩
theorem Inv.bk (I : Inv X pins σ H s) : ∀ b o, X.base.get? b = some o → s.heap.get? b = some o := fun b o e => (I.bs b o e).1
theorem Inv.mod (I : Inv X pins σ H s) : Mod X.K X.mg X.base := I.ok.mod
theorem Inv.kIn (I : Inv X pins σ H s) : X.K.In s.heap := I.ok.mod.kin.keeps I.bk
theorem Inv.lt (I : Inv X pins σ H s) : X.env.locals < s.heap.objs.size := let ⟨_, hn, _⟩ := I.loc; hn.lt
theorem Inv.sz (I : Inv X pins σ H s) : X.s₀.heap.objs.size ≤ s.heap.objs.size := Nat.le_trans I.ok.above (Nat.le_of_lt I.lt)
theorem Inv.nofs (I : Inv X pins σ H s) {a : Addr} (h : s.heap.objs.size ≤ a) : a ∉ X.fs := fun hb => by
  obtain ⟨_, o, ho, _⟩ := I.ok.funs.mem hb
  exact absurd (Nat.lt_of_lt_of_le (Heap.lt_size ho) (Nat.le_trans I.sz h)) (Nat.lt_irrefl _)
theorem Inv.cne (I : Inv X pins σ H s) : ∀ x c, X.env.cells.lookup x = some c → c ≠ X.env.locals := fun x c e z => by
  obtain ⟨v, o, ho, hd⟩ := I.cell x c e
  obtain ⟨m, ⟨o', es, ep, ho', hd', _⟩, _⟩ := I.loc
  rw [z, ho'] at ho; cases ho; rw [hd'] at hd; cases hd
theorem Inv.funs (I : Inv X pins σ H s) : s.heap.FunFrames X.base X.outer := by
  have all : ∀ (l : List Env), (∀ b ∈ frs l, b ∈ X.fs) → X.s₀.heap.FunFrames X.base l → s.heap.FunFrames X.base l := by
    intro l
    induction l with
    | nil => intro _ _; trivial
    | cons env r ih =>
      intro hs hl
      obtain ⟨hk, ⟨L, o, hf, hn, ho, hd⟩, hr⟩ := hl
      have hL : L ∈ X.fs := hs L (by unfold frs; rw [List.filterMap_cons, hf]; exact List.mem_cons_self)
      obtain ⟨sl, e⟩ := I.base.slot L o ho (I.ok.frf L hL) hL fun z => I.ok.exfs L z hL
      exact ⟨hk, ⟨L, _, hf, hn, e, hd⟩, ih (fun b hb => hs b (by unfold frs; rw [List.filterMap_cons, hf]; exact List.mem_cons_of_mem _ hb)) hr⟩
  exact all X.outer (fun _ hb => hb) I.ok.funs
theorem Inv.stack (I : Inv X pins σ H s) : s.heap.FunFrames X.base X.stack := by
  rcases I.ok.stk with e | ⟨e, hf⟩
  · rw [e]; exact I.funs
  · rw [e]
    obtain ⟨m, hn, _⟩ := I.loc
    refine .cons (by rw [I.ok.kind]; decide) hf hn ?_ I.funs
    exact Heap.get?_none_of_le (Nat.le_trans I.ok.bsz I.ok.above)
theorem Inv.stkSub (I : Inv X pins σ H s) : ∀ b ∈ frs X.stack, b ∈ X.env.locals :: X.fs := fun b hb => by
  rcases I.ok.stk with e | ⟨e, hf⟩
  · rw [e] at hb; exact List.mem_cons_of_mem _ hb
  · rw [e] at hb
    unfold frs at hb
    rw [List.filterMap_cons, hf] at hb
    exact hb
theorem Inv.stkFree (I : Inv X pins σ H s) : ∀ b ∈ frs X.stack, H b = none := fun b hb => by
  rcases List.mem_cons.mp (I.stkSub b hb) with e | hb
  · rw [e]; exact I.free
  · obtain ⟨_, o, ho, _⟩ := I.ok.funs.mem hb
    exact I.base.free b o ho (I.ok.frf b hb) fun z => I.ok.exfs b z hb
theorem Inv.step {g' : Array GenState} {t' : Nat} {d' : Drawn} {ch : List Addr} (I : Inv X pins σ H s)
    (hch : ∀ b ∈ ch, (b ∈ X.ex ∨ X.s₀.heap.objs.size ≤ b) ∧ b ≠ X.env.locals ∧ (∀ x c, X.env.cells.lookup x = some c → c ≠ b) ∧ ∀ p ∈ X.pn ++ pins, p.1 ≠ b)
    (keep : ∀ b o, b ≠ X.env.locals → b ∉ X.fs → b ∉ ch → s.heap.get? b = some o → H b = none → h'.get? b = some o)
    (slot : ∀ b o, b ≠ X.env.locals → b ∈ X.fs → b ∉ ch → s.heap.get? b = some o → H b = none → ∃ sl, h'.get? b = some { o with slots := sl }) (free : ∀ b o, b ∉ ch → s.heap.get? b = some o → H b = none → H' b = none)
    (there : ∀ b o, b ∉ ch → s.heap.get? b = some o → ∃ o', h'.get? b = some o')
    (tups : ∀ b xs, H b = some (.tup xs) → H' b = some (.tup xs)) (frzs : ∀ b o u, H b = some (.frz o u) → H' b = some (.frz o u)) (tbls : ∀ b ps, H b = some (.tbl ps) → ∃ more, H' b = some (.tbl (ps ++ more)))
    (ns : ∀ m, s.heap.Ns X.env.locals m → h'.Ns X.env.locals m) (hok : HOk X.prog X.w H' h') (hg : AllBare g') :
    Inv X pins σ H' { s with heap := h', gens := g', drawn := d', toks := t' } := by
  have neL : ∀ b o, X.s₀.heap.get? b = some o → b ≠ X.env.locals := fun b o e => Nat.ne_of_lt (Nat.lt_of_lt_of_le (Heap.lt_size e) I.ok.above)
  have neC : ∀ b o, X.s₀.heap.get? b = some o → b ∉ X.ex → b ∉ ch := fun b o e hx hb => by
    rcases (hch b hb).1 with z | z
    · exact hx z
    · exact absurd (Nat.lt_of_lt_of_le (Heap.lt_size e) z) (Nat.lt_irrefl _)
  have cellK : ∀ x c, X.env.cells.lookup x = some c → ∀ v, s.heap.IsCell c v → h'.IsCell c v := fun x c e v ⟨o, ho, hd⟩ => by
    have nch : c ∉ ch := fun z => (hch c z).2.2.1 x c e rfl
    by_cases hc : c ∈ X.fs
    · obtain ⟨sl, q⟩ := slot c o (I.cne x c e) hc nch ho (I.freeC x c e)
      exact ⟨_, q, hd⟩
    · exact ⟨o, keep c o (I.cne x c e) hc nch ho (I.freeC x c e), hd⟩
  refine ⟨I.ok, I.os, hg, ⟨fun b o e n hb hx => ?_, fun b o e n hb hx => ?_, fun b o e n hx => ?_, fun b o e hx => ?_, fun b xs e => tups b xs (I.base.tups b xs e), fun b o xs e => frzs b o xs (I.base.frzs b o xs e), fun b ps e => ?_⟩, ?_, fun x c e => ?_, ?_, fun x c e => ?_, fun p hp => ?_, hok, I.len⟩
  · exact keep b o (neL b o e) hb (neC b o e hx) (I.base.keep b o e n hb hx) (I.base.free b o e n hx)
  · obtain ⟨sl, e1⟩ := I.base.slot b o e n hb hx
    obtain ⟨sl', e2⟩ := slot b _ (neL b o e) hb (neC b o e hx) e1 (I.base.free b o e n hx)
    exact ⟨sl', e2⟩
  · obtain ⟨o', e1⟩ := I.base.there b o e hx
    exact free b o' (neC b o e hx) e1 (I.base.free b o e n hx)
  · obtain ⟨o', e1⟩ := I.base.there b o e hx
    exact there b o' (neC b o e hx) e1
  · obtain ⟨m1, e1⟩ := I.base.tbls b ps e
    obtain ⟨m2, e2⟩ := tbls b _ e1
    exact ⟨m1 ++ m2, by rw [e2, Array.append_assoc]⟩
  · obtain ⟨m, hn, hl⟩ := I.loc
    refine ⟨m, ns m hn, fun i x v e1 e2 e3 => ?_⟩
    obtain ⟨u, r, l⟩ := hl i x v e1 e2 e3
    refine ⟨u, r, ?_⟩
    rcases l with l | ⟨k, c, e, z⟩
    · exact .inl l
    · exact .inr ⟨k, c, e, cellK x c e _ z⟩
  · obtain ⟨v, z⟩ := I.cell x c e
    exact ⟨v, cellK x c e v z⟩
  · obtain ⟨m, ⟨o, _, _, ho, _⟩, _⟩ := I.loc
    exact free _ o (fun z => (hch _ z).2.1 rfl) ho I.free
  · obtain ⟨v, o, ho, hd⟩ := I.cell x c e
    exact free c o (fun z => (hch c z).2.2.1 x c e rfl) ho (I.freeC x c e)
  · obtain ⟨e, n, ne, nf, d⟩ := I.pin p hp
    have nch : p.1 ∉ ch := fun z => (hch p.1 z).2.2.2 p hp rfl
    exact ⟨keep p.1 p.2 ne nf nch e n, free p.1 p.2 nch e n, ne, nf, d⟩
theorem Inv.un {t' : Nat} (I : Inv X pins σ H s) (u : Un X.fs [] H H' s.heap h') (hok : HOk X.prog X.w H' h') : Inv X pins σ H' { s with heap := h', toks := t' } := by
  obtain ⟨m, ⟨o, es, ep, ho, r⟩, _⟩ := id I.loc
  obtain ⟨sl, hL⟩ := u.any ho I.free (by simp)
  exact I.step (g' := s.gens) (d' := s.drawn) (ch := []) (fun _ z => nomatch z) (fun b o _ hb _ e n => u.keep b o e n hb (by simp)) (fun b o _ hb _ e n => u.slot b o e n hb (by simp)) (fun b o _ e n => u.free b o e n (by simp)) (fun b o _ e => u.there b o e (by simp)) u.tups u.frzs u.tbls (fun m' hm => by
    obtain ⟨o', es', ep', ho', r'⟩ := hm
    rw [ho] at ho'; cases ho'
    exact ⟨_, es', ep', hL, r'⟩) hok I.bare
theorem Inv.call {g' : Array GenState} {t' : Nat} {d' : Drawn} {ch : List Addr} (I : Inv X pins σ H s) (u : Un (frs X.stack) ch H H' s.heap h') (hok : HOk X.prog X.w H' h') (hg : AllBare g')
    (hch : ∀ b ∈ ch, (b ∈ X.ex ∨ X.s₀.heap.objs.size ≤ b) ∧ b ≠ X.env.locals ∧ (∀ x c, X.env.cells.lookup x = some c → c ≠ b) ∧ ∀ p ∈ X.pn ++ pins, p.1 ≠ b) :
    Inv X pins σ H' { s with heap := h', gens := g', drawn := d', toks := t' } := by
  obtain ⟨m, ⟨o, es, ep, ho, r⟩, _⟩ := id I.loc
  obtain ⟨sl, hL⟩ := u.any ho I.free fun z => (hch _ z).2.1 rfl
  exact I.step (ch := ch) hch (fun b o hL hb hc e n => u.keep b o e n (fun z => (List.mem_cons.mp (I.stkSub b z)).elim hL hb) hc) (fun b o _ _ hc e n => u.any e n hc) (fun b o hc e n => u.free b o e n hc) (fun b o hc e => u.there b o e hc) u.tups u.frzs u.tbls (fun m' hm => by
    obtain ⟨o', es', ep', ho', r'⟩ := hm
    rw [ho] at ho'; cases ho'
    exact ⟨_, es', ep', hL, r'⟩) hok hg
theorem Inv.turned {t' : Nat} {it : Addr} (I : Inv X pins σ H s) (k : ∀ b o, b ≠ it → s.heap.get? b = some o → h'.get? b = some o) (hn : H it = none) (hL : it ≠ X.env.locals)
    (h1 : it ∈ X.ex ∨ X.s₀.heap.objs.size ≤ it) (h2 : ∀ x c, X.env.cells.lookup x = some c → c ≠ it) (h3 : ∀ p ∈ X.pn ++ pins, p.1 ≠ it) : Inv X pins σ H { s with heap := h', toks := t' } := by
  have nit : ∀ b u, H b = some u → b ≠ it := fun b u e z => by rw [z, hn] at e; cases e
  refine I.step (g' := s.gens) (d' := s.drawn) (ch := [it]) (fun b hb => ?_) (fun b o _ _ hc e _ => k b o (fun z => hc (by simp [z])) e) (fun b o _ _ hc e _ => ⟨o.slots, k b o (fun z => hc (by simp [z])) e⟩) (fun _ _ _ _ n => n)
    (fun b o hc e => ⟨o, k b o (fun z => hc (by simp [z])) e⟩) (fun _ _ e => e) (fun _ _ _ e => e) (fun b ps e => ⟨#[], by rw [e]; simp⟩) (fun m hm => ?_) (fun b u e => ?_) I.bare
  · have e : b = it := by simpa using hb
    subst e
    exact ⟨h1, hL, h2, h3⟩
  · obtain ⟨o, es, ep, ho, r⟩ := hm
    exact ⟨o, es, ep, k _ o (Ne.symm hL) ho, r⟩
  · refine (I.hok b u e).stay (fun c v hc q => k c v ?_ q) (fun _ q => q) fun _ _ q => q
    rcases hc with z | z
    · rw [z]; exact nit b u e
    · exact nit c _ z
theorem Inv.tok (I : Inv X pins σ H s) (t : Nat) : Inv X pins σ H { s with toks := t } := I.un (h' := s.heap) (t' := t) Un.refl I.hok
theorem Inv.kept {t' : Nat} (I : Inv X pins σ H s) (k : ∀ b u, s.heap.get? b = some u → h'.get? b = some u) : Inv X pins σ H { s with heap := h', toks := t' } := I.un (Un.kept k) (I.hok.kept k)
theorem Inv.laid {a : Addr} {o : HO} {t' : Nat} (I : Inv X pins σ H s) (k : ∀ b u, s.heap.get? b = some u → h'.get? b = some u) (hp : s.heap.objs.size ≤ a) (new : ObjOk X.prog X.w (upd H a o) h' a o) :
    Inv X pins σ (upd H a o) { s with heap := h', toks := t' } := I.un (Un.laid k hp (I.hok.fresh hp)) (I.hok.laid k hp new)
theorem Inv.write {x e : Addr} {o : HO} {t' : Nat} (I : Inv X pins σ H s) (mu : Mut (H x)) (he : e = x ∨ H e = some (.own x)) (k : ∀ b u, b ≠ e → s.heap.get? b = some u → h'.get? b = some u) (heo : ∃ u, h'.get? e = some u)
    (new : ObjOk X.prog X.w (upd H x o) h' x o) : Inv X pins σ (upd H x o) { s with heap := h', toks := t' } := I.un (Un.write mu he k heo) (I.hok.write mu he k heo new)
theorem Inv.pins_of {pins' : List (Addr × Obj)} (I : Inv X pins σ H s) (h : ∀ p ∈ pins', s.heap.get? p.1 = some p.2 ∧ H p.1 = none ∧ p.1 ≠ X.env.locals ∧ p.1 ∉ X.fs ∧ ∀ v, p.2.data ≠ .cell v) : Inv X pins' σ H s :=
  ⟨I.ok, I.os, I.bare, I.base, I.loc, I.cell, I.free, I.freeC, fun p hp => (List.mem_append.mp hp).elim (fun z => I.pin p (List.mem_append_left _ z)) (h p), I.hok, I.len⟩
theorem nodup_ix {N : List Str} (hN : N.Nodup) {i j : Nat} {x : Str} (a : N[i]? = some x) (b : N[j]? = some x) : i = j := by
  obtain ⟨h1, e1⟩ := List.getElem?_eq_some_iff.mp a
  obtain ⟨h2, e2⟩ := List.getElem?_eq_some_iff.mp b
  exact (List.getElem_inj hN).mp (e1.trans e2.symm)
theorem store_ok2 {M : Model} {A : Around} {E : Value → Shared → Prop} {i : Nat} {x : Str} {v : V} {u : Value} {Q : Unit → Shared → Prop} (I : Inv X pins σ H s) (hN : X.N.Nodup) (hi : X.N[i]? = some x) (hx : Loc X.env.scope x) (r : RelV v u)
    (h : ∀ s', Inv X pins (σ.set i (some v)) H s' → (∃ a, Heap.SameBut a s.heap s'.heap ∧ (a = X.env.locals ∨ X.env.cells.lookup x = some a)) → Q () s') (hf : X.fn x = true ∨ X.env.scope.names.lookup x = some .local := by first | exact .inl rfl | exact .inr rfl | assumption) : wpAny M A (storeName X.env x u) Q E s := by
  obtain ⟨m, hn, hl⟩ := id I.loc
  have hcls : (X.env.scope.kind == .class || (X.env.scope.kind == .module && X.env.locals != X.env.globals)) = false := by rw [I.ok.kind]; rfl
  have hiσ : i < σ.length := by rw [I.len]; exact (List.getElem?_eq_some_iff.mp hi).1
  have cne := I.cne
  have tracked : ∀ {a : Addr} {h' : Heap}, (∃ o, s.heap.get? a = some o ∧ H a = none) → Heap.SameBut a s.heap h' → HOk X.prog X.w H h' := fun {a h'} ha hs b ob e => by
    obtain ⟨_, _, hfree⟩ := ha
    refine (I.hok b ob e).stay (fun c w' hc q => (hs.2 c ?_).trans q) (fun _ q => q) fun _ _ q => q
    rintro rfl
    rcases hc with rfl | hc
    · rw [hfree] at e; cases e
    · rw [hfree] at hc; cases hc
  rcases hx with hk | hk
  · refine wpAny_storeName_local hk hn (fun h' hn' hs => ?_) hcls
    obtain ⟨oL, _, _, hoL, _⟩ := id hn
    refine h _ ⟨I.ok, I.os, I.bare, ⟨fun b o e n hb hx => ?_, fun b o e n hb hx => ?_, I.base.free, fun b o e hx => ?_, I.base.tups, I.base.frzs, I.base.tbls⟩, ⟨_, hn', fun j y v' e1 e2 e3 => ?_⟩, fun y c e => ?_, I.free, I.freeC, fun p hp => ?_, tracked ⟨oL, hoL, I.free⟩ hs, by simpa using I.len⟩ ⟨_, hs, .inl rfl⟩
    · exact (hs.2 b (Nat.ne_of_lt (Nat.lt_of_lt_of_le (Heap.lt_size e) I.ok.above))).trans (I.base.keep b o e n hb hx)
    · obtain ⟨sl, e1⟩ := I.base.slot b o e n hb hx
      exact ⟨sl, (hs.2 b (Nat.ne_of_lt (Nat.lt_of_lt_of_le (Heap.lt_size e) I.ok.above))).trans e1⟩
    · obtain ⟨o', e1⟩ := I.base.there b o e hx
      exact ⟨o', (hs.2 b (Nat.ne_of_lt (Nat.lt_of_lt_of_le (Heap.lt_size e) I.ok.above))).trans e1⟩
    · by_cases hj : j = i
      · subst hj
        rw [hi] at e1; cases e1
        rw [List.getElem?_set_self hiσ] at e2
        cases e2
        exact ⟨u, r, .inl ⟨hk, by simp⟩⟩
      · rw [List.getElem?_set_ne (Ne.symm hj)] at e2
        obtain ⟨u', r', q⟩ := hl j y v' e1 e2 e3
        refine ⟨u', r', ?_⟩
        rcases q with ⟨k, e⟩ | ⟨k, c, e, z⟩
        · refine .inl ⟨k, ?_⟩
          have : y ≠ x := fun e => hj (nodup_ix hN e1 (e ▸ hi))
          simp [this, e]
        · exact .inr ⟨k, c, e, z.sameBut hs (cne y c e)⟩
    · obtain ⟨w', z⟩ := I.cell y c e
      exact ⟨w', z.sameBut hs (cne y c e)⟩
    · obtain ⟨e, n, ne, nf, d⟩ := I.pin p hp
      exact ⟨(hs.2 p.1 ne).trans e, n, ne, nf, d⟩
  · have hfn : X.fn x = true := by
      rcases hf with z | z
      · exact z
      · rw [z] at hk; cases hk
    obtain ⟨c, hc⟩ := I.ok.has x (.inl hk)
    obtain ⟨w', z⟩ := I.cell x c hc
    refine wpAny_storeName_cell I.ok.kind hk hc z (fun h' hc' hs => ?_)
    obtain ⟨oc, hoc, hocd⟩ := id z
    refine h { s with heap := h' } ⟨I.ok, I.os, I.bare, ⟨fun b o e n hb hx => ?_, fun b o e n hb hx => ?_, I.base.free, fun b o e hx => ?_, I.base.tups, I.base.frzs, I.base.tbls⟩, ⟨m, hn.sameBut hs (Ne.symm (cne x c hc)), fun j y v' e1 e2 e3 => ?_⟩, fun y c' e => ?_, I.free, I.freeC, fun p hp => ?_, tracked ⟨oc, hoc, I.freeC x c hc⟩ hs, by simpa using I.len⟩ ⟨c, hs, .inr hc⟩
    · exact (hs.2 b (Nat.ne_of_lt (Nat.lt_of_lt_of_le (Heap.lt_size e) (I.ok.cab x c hfn hc)))).trans (I.base.keep b o e n hb hx)
    · obtain ⟨sl, e1⟩ := I.base.slot b o e n hb hx
      exact ⟨sl, (hs.2 b (Nat.ne_of_lt (Nat.lt_of_lt_of_le (Heap.lt_size e) (I.ok.cab x c hfn hc)))).trans e1⟩
    · obtain ⟨o', e1⟩ := I.base.there b o e hx
      exact ⟨o', (hs.2 b (Nat.ne_of_lt (Nat.lt_of_lt_of_le (Heap.lt_size e) (I.ok.cab x c hfn hc)))).trans e1⟩
    · by_cases hj : j = i
      · subst hj
        rw [hi] at e1; cases e1
        rw [List.getElem?_set_self hiσ] at e2
        cases e2
        exact ⟨u, r, .inr ⟨.inl hk, c, hc, hc'⟩⟩
      · rw [List.getElem?_set_ne (Ne.symm hj)] at e2
        obtain ⟨u', r', q⟩ := hl j y v' e1 e2 e3
        refine ⟨u', r', ?_⟩
        rcases q with q | ⟨k, c', e, z'⟩
        · exact .inl q
        · refine .inr ⟨k, c', e, z'.sameBut hs ?_⟩
          rintro rfl
          exact hj (nodup_ix hN e1 (I.ok.inj _ _ _ e hc ▸ hi))
    · by_cases hcc : c' = c
      · subst hcc; exact ⟨_, hc'⟩
      · obtain ⟨w2, z2⟩ := I.cell y c' e
        exact ⟨w2, z2.sameBut hs hcc⟩
    · obtain ⟨e, n, ne, nf, d⟩ := I.pin p hp
      refine ⟨(hs.2 p.1 ?_).trans e, n, ne, nf, d⟩
      intro q
      rw [q, hoc] at e
      have q' : oc = p.2 := Option.some.inj e
      exact d w' (by rw [← q']; exact hocd)
theorem store_ok {M : Model} {A : Around} {E : Value → Shared → Prop} {i : Nat} {x : Str} {v : V} {u : Value} {Q : Unit → Shared → Prop} (I : Inv X pins σ H s) (hN : X.N.Nodup) (hi : X.N[i]? = some x) (hx : Loc X.env.scope x) (r : RelV v u)
    (h : ∀ s', Inv X pins (σ.set i (some v)) H s' → Q () s') (hf : X.fn x = true ∨ X.env.scope.names.lookup x = some .local := by first | exact .inl rfl | exact .inr rfl | assumption) : wpAny M A (storeName X.env x u) Q E s :=
  store_ok2 I hN hi hx r (fun s' I' _ => h s' I') hf
theorem Inv.call' {s' : Shared} {ch : List Addr} (I : Inv X pins σ H s) (ho : s'.os = s.os) (u : Un (frs X.stack) ch H H' s.heap s'.heap) (hok : HOk X.prog X.w H' s'.heap) (hg : AllBare s'.gens)
    (hch : ∀ b ∈ ch, (b ∈ X.ex ∨ X.s₀.heap.objs.size ≤ b) ∧ b ≠ X.env.locals ∧ (∀ x c, X.env.cells.lookup x = some c → c ≠ b) ∧ ∀ p ∈ X.pn ++ pins, p.1 ≠ b) : Inv X pins σ H' s' := by
  obtain ⟨h', g', d', t', o'⟩ := s'
  have e : o' = s.os := ho
  subst e
  exact I.call (g' := g') (t' := t') (d' := d') u hok hg hch
end
abbrev XK := Value → Option Addr → Hp → Prop
abbrev St := List (Option V)
abbrev VK := V → Hp → Prop
abbrev TE := St → Hp → VK → Prop
abbrev TT := St → Hp → (Bool → Hp → Prop) → Prop
abbrev TA := St → Hp → (List V → Hp → Prop) → Prop
structure Ends where
  nx : St → Hp → Prop
  rt : VK
  bk : St → Hp → Prop := fun _ _ => False
  ct : St → Hp → Prop := fun _ _ => False
abbrev TS := Ends → St → Hp → Prop
def EP (X : Cx) (pins : List (Addr × Obj)) (σ : St) (Q : VK) (u : Value) (s' : Shared) : Prop := ∃ v H', Inv X pins σ H' s' ∧ RelV v u ∧ Q v H'
def TP (X : Cx) (pins : List (Addr × Obj)) (σ : St) (Q : Bool → Hp → Prop) (b : Bool) (s' : Shared) : Prop := ∃ H', Inv X pins σ H' s' ∧ Q b H'
def AP (X : Cx) (pins : List (Addr × Obj)) (σ : St) (Q : List V → Hp → Prop) (us : List Value) (s' : Shared) : Prop := ∃ vs H', Inv X pins σ H' s' ∧ Vals vs us ∧ Q vs H'
def SP (X : Cx) (pins : List (Addr × Obj)) (D : Ends) (f : Flow) (s' : Shared) : Prop :=
  match f with
  | .next => ∃ σ' H', Inv X pins σ' H' s' ∧ D.nx σ' H'
  | .brk => ∃ σ' H', Inv X pins σ' H' s' ∧ D.bk σ' H'
  | .cont => ∃ σ' H', Inv X pins σ' H' s' ∧ D.ct σ' H'
  | .ret u => ∃ v σ' H', Inv X pins σ' H' s' ∧ RelV v u ∧ D.rt v H'
def PE (X : Cx) (e : Expr) (t : TE) : Prop :=
  ∀ (pins : List (Addr × Obj)) (s : Shared) (σ : St) (H : Hp) (Q : VK), Inv X pins σ H s → t σ H Q → wpAny (model X.prog X.w) X.A (eval e X.env) (EP X pins σ Q) X.xe s
def PT (X : Cx) (e : Expr) (t : TT) : Prop :=
  ∀ (pins : List (Addr × Obj)) (s : Shared) (σ : St) (H : Hp) (Q : Bool → Hp → Prop), Inv X pins σ H s → t σ H Q → wpAny (model X.prog X.w) X.A (isTrue e X.env (eval e X.env)) (TP X pins σ Q) X.xe s
def PW (X : Cx) (e : Expr) (t : TT) : Prop :=
  ∀ (whole : Sem Value) (pins : List (Addr × Obj)) (s : Shared) (σ : St) (H : Hp) (Q : Bool → Hp → Prop), Inv X pins σ H s → t σ H Q → wpAny (model X.prog X.w) X.A (isTrue e X.env whole) (TP X pins σ Q) X.xe s
theorem PW.pt {X : Cx} {e : Expr} {t : TT} (h : PW X e t) : PT X e t := h _
def PA (X : Cx) (es : List Expr) (t : TA) : Prop :=
  ∀ (pos : Pos) (pins : List (Addr × Obj)) (s : Shared) (σ : St) (H : Hp) (Q : List V → Hp → Prop), Inv X pins σ H s → t σ H Q → wpAny (model X.prog X.w) X.A (spliced (backTo pos (starEach es X.env))) (AP X pins σ Q) X.xe s
def PS (X : Cx) (st : Stmt) (t : TS) : Prop :=
  ∀ (pins : List (Addr × Obj)) (s : Shared) (σ : St) (H : Hp) (D : Ends), Inv X pins σ H s → t D σ H → wpAny (model X.prog X.w) X.A (exec st X.env) (SP X pins D) X.xe s
def PSs (X : Cx) (st : List Stmt) (t : TS) : Prop :=
  ∀ (pins : List (Addr × Obj)) (s : Shared) (σ : St) (H : Hp) (D : Ends), Inv X pins σ H s → t D σ H → wpAny (model X.prog X.w) X.A (execs st X.env) (SP X pins D) X.xe s
theorem thn {α : Type} {t : Sem α} {Q Q' : α → Shared → Prop} {M : Model} {A : Around} {E : Value → Shared → Prop} {s : Shared} (h : wpAny M A t Q E s) (hQ : ∀ a s, Q a s → Q' a s) : wpAny M A t Q' E s := wpAny_mono h hQ fun _ _ x => x
end L2
namespace L2
open PySem PySem.Spec PyProof.Rows
section
variable {X : Cx}
def tVar (i : Nat) : TE := fun σ H Q => ∃ v, σ[i]? = some (some v) ∧ Q v H
def tC (v : V) : TE := fun _ H Q => Q v H
theorem pe_var {i : Nat} {x : Str} {pos : Pos} (hN : X.N[i]? = some x) (hv : Vis X.env.scope x) (hd : (x == ("__debug__" : Str)) = false := by decide) (hcd : (x == ("__classdict__" : Str)) = false := by decide) : PE X (.Name x pos) (tVar i) := by
  intro pins s σ H Q I h
  obtain ⟨v, e, h⟩ := h
  obtain ⟨m, hn, hl⟩ := I.loc
  obtain ⟨u, r, l⟩ := hl i x v hN e hv
  have fin : EP X pins σ Q u s := ⟨v, H, I, r, h⟩
  rcases l with ⟨hk, hm⟩ | ⟨hk, c, hc, hcell⟩
  · exact wpAny_Name (wpAny_loadName_local I.ok.kind hk hn hm fin) hd
  · rcases hk with hk | hk
    · exact wpAny_Name (wpAny_loadName_cell I.ok.kind hk hc hcell fin) hd
    · exact wpAny_Name (wpAny_loadName_free I.ok.kind hk hc hcell fin hcd) hd
theorem pe_int {i j pos} : PE X (.Constant (.int i) j pos) (tC (.int i)) := fun _ _ _ H _ I h => wpAny_Constant_int ⟨.int i, H, I.tok _, ⟨_, rfl⟩, h⟩
theorem pe_bl {b j pos} : PE X (.Constant (.bool b) j pos) (tC (.bl b)) := fun _ _ _ H _ I h => Constant_bool ⟨.bl b, H, I, rfl, h⟩
theorem pe_non {j pos} : PE X (.Constant .none j pos) (tC .non) := fun _ _ _ H _ I h => Constant_none ⟨.non, H, I, rfl, h⟩
theorem pe_str {x j pos} : PE X (.Constant (.str x) j pos) (tC (.str x)) := fun _ _ _ H _ I h => Calls.Constant_str ⟨.str x, H, I.tok _, ⟨_, rfl⟩, h⟩
def Gl (X : Cx) (x : Str) : Prop := X.env.kindOf x = some .globalImplicit
theorem ld_glob {E : Value → Shared → Prop} {pins : List (Addr × Obj)} {s : Shared} {σ : St} {H : Hp} {x : Str} {u : Value} {pos : Pos} {Q : Value → Shared → Prop} (I : Inv X pins σ H s) (hg : Gl X x) (hm : X.mg x = some u) (h : Q u s)
    (hd : (x == ("__debug__" : Str)) = false := by decide) : wpAny (model X.prog X.w) X.A (eval (.Name x pos) X.env) Q E s :=
  Calls.Name_function_global I.ok.kind hg (Calls.loadGlobal_global (by rw [I.ok.glob]; exact I.mod.glob.keeps I.bk) hm h) hd
theorem ld_blt {E : Value → Shared → Prop} {pins : List (Addr × Obj)} {s : Shared} {σ : St} {H : Hp} {x : Str} {u : Value} {pos : Pos} {Q : Value → Shared → Prop} (I : Inv X pins σ H s) (hg : Gl X x) (hm : X.mg x = none) (hv : bootBuiltins x = some u) (h : Q u s)
    (hn : x ≠ "__name__" := by decide) (hd : (x == ("__debug__" : Str)) = false := by decide) : wpAny (model X.prog X.w) X.A (eval (.Name x pos) X.env) Q E s := by
  obtain ⟨mb, h1, h2⟩ := I.mod.blt
  exact Calls.Name_function_global I.ok.kind hg (Calls.loadGlobal_builtin (by rw [I.ok.glob]; exact I.mod.glob.keeps I.bk) hm (by rw [I.ok.blt]; exact h1.keeps I.bk) ((h2 x hn).trans hv) h) hd
theorem pe_glob {x : Str} {v : V} {u : Value} {pos : Pos} (hg : Gl X x) (hm : X.mg x = some u) (r : RelV v u) (hd : (x == ("__debug__" : Str)) = false := by decide) : PE X (.Name x pos) (tC v) :=
  fun _ _ _ H _ I h => ld_glob I hg hm ⟨v, H, I, r, h⟩ hd
theorem pe_bltn {x : Str} {v : V} {u : Value} {pos : Pos} (hg : Gl X x) (hm : X.mg x = none) (hv : bootBuiltins x = some u) (r : RelV v u) (hn : x ≠ "__name__" := by decide) (hd : (x == ("__debug__" : Str)) = false := by decide) : PE X (.Name x pos) (tC v) :=
  fun _ _ _ H _ I h => ld_blt I hg hm hv ⟨v, H, I, r, h⟩ hn hd
variable {a b : Expr} {ta tb : TE} {pos : Pos}
def PC (X : Cx) (op : CmpOp) (a b : Expr) (t : TE) : Prop :=
  ∀ (pins : List (Addr × Obj)) (s : Shared) (σ : St) (H : Hp) (Q : VK), Inv X pins σ H s → t σ H Q →
    wpAny (model X.prog X.w) X.A (eval a X.env) (fun v s₁ => wpAny (model X.prog X.w) X.A (eval b X.env) (fun u s₂ => wpAny (model X.prog X.w) X.A (compareOp op v u) (EP X pins σ Q) X.xe s₂) X.xe s₁) X.xe s
theorem nobehind (b : Expr) {op : CmpOp} (h : op ≠ .In) (h2 : op ≠ .NotIn) : behindInMarks op b = false := by
  have e1 : (op == CmpOp.In) = false := by cases op <;> first | rfl | exact absurd rfl h
  have e2 : (op == CmpOp.NotIn) = false := by cases op <;> first | rfl | exact absurd rfl h2
  cases b <;> simp [behindInMarks, e1, e2]
def tIsN (ta : TE) : TE := fun σ H Q => ta σ H fun x H1 => Q (.bl (decide (x = .non))) H1
def tNotN (ta : TE) : TE := fun σ H Q => ta σ H fun x H1 => Q (.bl (!decide (x = .non))) H1
theorem RelV.none_iff {x : V} {v : Value} (r : RelV x v) : (v == Value.none) = decide (x = .non) := by
  cases x with
  | non => cases r; rfl
  | bl _ => cases r; rfl
  | int _ => obtain ⟨t, rfl⟩ := r; rfl
  | str _ => obtain ⟨t, rfl⟩ := r; rfl
  | byt _ => obtain ⟨t, rfl⟩ := r; rfl
  | flt _ => obtain ⟨t, rfl⟩ := r; rfl
  | ref _ => cases r; rfl
  | ty _ => cases r; rfl
theorem pc_isN {j pos'} (ha : PE X a ta) : PC X .Is a (.Constant .none j pos') (tIsN ta) := by
  intro pins s σ H Q I h
  refine thn (ha pins s σ H _ I h) fun v s1 ⟨x, H1, I1, r1, q1⟩ => ?_
  exact Constant_none (is_none_gen ⟨.bl _, H1, I1, by rw [r1.none_iff]; rfl, q1⟩)
def tB (t : TE) : TT := fun σ H Q => t σ H fun x H1 => ∃ c, x = .bl c ∧ Q c H1
theorem pt_cmp {op : CmpOp} {t : TE} (h : PC X op a b t) (h1 : behindInMarks op b = false := by first | exact nobehind _ (by decide) (by decide) | rfl) : PT X (.Compare a [op] [b] pos) (tB t) := by
  intro pins s σ H Q I hw
  refine wpAny_isTrue_Compare1 (thn (h pins s σ H _ I hw) fun v s1 h1 => thn h1 fun u s2 h2 => thn h2 fun c s3 ⟨x, H1, I1, r1, q1⟩ => ?_) h1
  obtain ⟨d, rfl, q⟩ := q1
  cases r1
  exact wpAny_truthy_bool ⟨H1, I1, q⟩
theorem pt_val {e : Expr} {t : TE} (h : PE X e t) (he : ∀ whole, isTrue e X.env whole = (do let v ← whole; standAt e.pos; holding [v] (truthy v)) := by intro _; rfl) : PT X e (tB t) := by
  intro pins s σ H Q I hw
  refine isTrue_plain (thn (h pins s σ H _ I hw) fun v s1 ⟨x, H1, I1, r1, q1⟩ => ?_) (he _)
  obtain ⟨d, rfl, q⟩ := q1
  cases r1
  exact wpAny_truthy_bool ⟨H1, I1, q⟩
variable {tA tB' : TT} {rest : List Expr}
def tAnd (t u : TT) : TT := fun σ H Q => t σ H fun c H1 => if c = true then u σ H1 Q else Q false H1
def tOr (t u : TT) : TT := fun σ H Q => t σ H fun c H1 => if c = true then Q true H1 else u σ H1 Q
def tNot (t : TT) : TT := fun σ H Q => t σ H fun c H1 => Q (!c) H1
theorem pw_and1 (ha : PT X a tA) : PW X (.BoolOp .And [a] pos) tA := by
  intro wh pins s σ H Q I h
  refine isTrue_and (thn (ha pins s σ H Q I h) fun c s1 e => ?_)
  cases c with
  | true => exact isTrue_and_nil e
  | false => exact e
theorem pw_or1 (ha : PT X a tA) : PW X (.BoolOp .Or [a] pos) tA := by
  intro wh pins s σ H Q I h
  refine isTrue_or (thn (ha pins s σ H Q I h) fun c s1 e => ?_)
  cases c with
  | false => exact isTrue_or_nil e
  | true => exact e
theorem pw_and (ha : PT X a tA) (hb : PW X (.BoolOp .And (b :: rest) pos) tB') : PW X (.BoolOp .And (a :: b :: rest) pos) (tAnd tA tB') := by
  intro wh pins s σ H Q I h
  refine isTrue_and (thn (ha pins s σ H _ I h) fun c s1 ⟨H1, I1, q1⟩ => ?_)
  cases c with
  | true => exact hb wh pins s1 σ H1 Q I1 q1
  | false => exact ⟨H1, I1, q1⟩
theorem pw_or (ha : PT X a tA) (hb : PW X (.BoolOp .Or (b :: rest) pos) tB') : PW X (.BoolOp .Or (a :: b :: rest) pos) (tOr tA tB') := by
  intro wh pins s σ H Q I h
  refine isTrue_or (thn (ha pins s σ H _ I h) fun c s1 ⟨H1, I1, q1⟩ => ?_)
  cases c with
  | true => exact ⟨H1, I1, q1⟩
  | false => exact hb wh pins s1 σ H1 Q I1 q1
theorem pt_not (ha : PT X a tA) : PT X (.UnaryOp .Not a pos) (tNot tA) := by
  intro pins s σ H Q I h
  exact isTrue_not (ha pins s σ H (fun c H1 => Q (!c) H1) I h)
def tAndV (ta tb : TE) : TE := fun σ H Q => ta σ H fun x H1 => ∃ c, x = .bl c ∧ if c = true then tb σ H1 Q else Q (.bl false) H1
def tOrV (ta tb : TE) : TE := fun σ H Q => ta σ H fun x H1 => ∃ c, x = .bl c ∧ if c = true then Q (.bl true) H1 else tb σ H1 Q
def tNotV (ta : TE) : TE := fun σ H Q => ta σ H fun x H1 => ∃ c, x = .bl c ∧ Q (.bl (!c)) H1
theorem pe_one {op} {t : TE} (h : PE X a t) : PE X (.BoolOp op [a] pos) t := fun pins s σ H Q I hw => BoolOp_one (h pins s σ H Q I hw)
theorem pe_and (ha : PE X a ta) (hb : PE X (.BoolOp .And (b :: rest) pos) tb) : PE X (.BoolOp .And (a :: b :: rest) pos) (tAndV ta tb) := by
  intro pins s σ H Q I h
  refine BoolOp_and (thn (ha pins s σ H _ I h) fun v s1 ⟨x, H1, I1, r1, q1⟩ => ?_)
  obtain ⟨c, rfl, q1⟩ := q1
  cases r1
  refine wpAny_truthy_bool ?_
  cases c with
  | true => exact hb pins s1 σ H1 Q I1 q1
  | false => exact ⟨.bl false, H1, I1, rfl, q1⟩
theorem pe_not (ha : PE X a ta) : PE X (.UnaryOp .Not a pos) (tNotV ta) := by
  intro pins s σ H Q I h
  refine UnaryOp_ (thn (ha pins s σ H _ I h) fun v s1 ⟨x, H1, I1, r1, q1⟩ => ?_)
  obtain ⟨c, rfl, q1⟩ := q1
  cases r1
  exact not_of (wpAny_truthy_bool ⟨.bl (!c), H1, I1, rfl, q1⟩)
def tIf (t : TT) (ta tb : TE) : TE := fun σ H Q => t σ H fun c H1 => if c = true then ta σ H1 Q else tb σ H1 Q
theorem pe_ifExp {c : Expr} (hc : PT X c tA) (ha : PE X a ta) (hb : PE X b tb) : PE X (.IfExp c a b pos) (tIf tA ta tb) := by
  intro pins s σ H Q I h
  refine wpAny_IfExp (thn (hc pins s σ H _ I h) fun d s1 ⟨H1, I1, q1⟩ => ?_)
  cases d with
  | true => exact ha pins s1 σ H1 Q I1 q1
  | false => exact hb pins s1 σ H1 Q I1 q1
end
end L2
namespace L2
open PySem PySem.Spec PyProof.Rows
def SqL (K : PySem.W.Frag) (H : Hp) (a : Addr) (xs : List V) : Prop :=
  Rd H a (.lst xs) ∨
    ∃ (o : Obj) (its : Array Value) (n : Nat), K.lookup a = some o ∧ o.cls = .type "list" ∧ o.dict = none ∧ o.data = .seq its n ∧ its.size ≤ sizeLine ∧ Vals xs its.toList
def SqT (K : PySem.W.Frag) (H : Hp) (a : Addr) (xs : List V) : Prop :=
  Rd H a (.tup xs) ∨
    ∃ (o : Obj) (its : Array Value) (n : Nat), K.lookup a = some o ∧ o.cls = .type "tuple" ∧ o.data = .seq its n ∧ its.size ≤ sizeLine ∧ Vals xs its.toList
def absV : Value → Option V
  | .none => some .non
  | .bool b => some (.bl b)
  | .int i _ => some (.int i)
  | .str x _ => some (.str x)
  | .bytes b _ => some (.byt b)
  | .float b _ => some (.flt b)
  | .ref a => some (.ref a)
  | .type n => some (.ty n)
  | _ => none
theorem RelV.abs {x : V} {u : Value} (r : RelV x u) : absV u = some x := by
  cases x with
  | non => cases r; rfl
  | bl _ => cases r; rfl
  | int _ => obtain ⟨t, rfl⟩ := r; rfl
  | str _ => obtain ⟨t, rfl⟩ := r; rfl
  | byt _ => obtain ⟨t, rfl⟩ := r; rfl
  | flt _ => obtain ⟨t, rfl⟩ := r; rfl
  | ref _ => cases r; rfl
  | ty _ => cases r; rfl
theorem RelV.inj {x y : V} {u : Value} (r : RelV x u) (q : RelV y u) : x = y := Option.some.inj (r.abs.symm.trans q.abs)
theorem Vals.inj : ∀ {xs ys : List V} {us : List Value}, Vals xs us → Vals ys us → xs = ys
  | _, _, _, .nil, .nil => rfl
  | _, _, _, .cons r t, .cons r' t' => by rw [r.inj r', Vals.inj t t']
section
variable {X : Cx} {pins : List (Addr × Obj)} {σ : St} {H : Hp} {s : Shared} {a : Addr} {xs ys : List V}
theorem SqL.of {K : PySem.W.Frag} (h : H a = some (.lst xs)) : SqL K H a xs := .inl (.inl h)
theorem SqT.of {K : PySem.W.Frag} (h : H a = some (.tup xs)) : SqT K H a xs := .inl (.inl h)
theorem Inv.list (I : Inv X pins σ H s) (h : SqL X.K H a xs) : ∃ its : List Value, Vals xs its ∧ PlainL s.heap a its.toArray ∧ xs.length ≤ sizeLine := by
  rcases h with h | ⟨o, its, n, hk, hc, hd, hs, hz, r⟩
  · obtain ⟨z, its, n, r, e⟩ := h.ok I.hok
    exact ⟨its, r, ⟨_, n, e, rfl, rfl, rfl⟩, z⟩
  · refine ⟨its.toList, r, ⟨o, n, I.kIn a o hk, hc, hd, by simpa using hs⟩, ?_⟩
    have e := r.length
    simp only [Array.length_toList] at e
    omega
theorem Inv.tuple (I : Inv X pins σ H s) (h : SqT X.K H a xs) : ∃ its : List Value, Vals xs its ∧ IsTup s.heap a its.toArray ∧ xs.length ≤ sizeLine := by
  rcases h with h | ⟨o, its, n, hk, hc, hs, hz, r⟩
  · obtain ⟨z, its, r, p⟩ := h.ok I.hok
    exact ⟨its, r, p, z⟩
  · refine ⟨its.toList, r, ⟨o, I.kIn a o hk, hc, n, by simpa using hs⟩, ?_⟩
    have e := r.length
    simp only [Array.length_toList] at e
    omega
theorem Inv.list_inj (I : Inv X pins σ H s) (h : SqL X.K H a xs) (h' : SqL X.K H a ys) : xs = ys := by
  obtain ⟨its, r, ⟨o, n, e, _, _, d⟩, _⟩ := I.list h
  obtain ⟨its', r', ⟨o', n', e', _, _, d'⟩, _⟩ := I.list h'
  rw [e] at e'; cases e'
  rw [d] at d'
  injection d' with d1 _
  have : its = its' := by simpa using congrArg Array.toList d1
  subst this
  exact r.inj r'
theorem Inv.tuple_inj (I : Inv X pins σ H s) (h : SqT X.K H a xs) (h' : SqT X.K H a ys) : xs = ys := by
  obtain ⟨its, r, ⟨o, e, _, n, d⟩, _⟩ := I.tuple h
  obtain ⟨its', r', ⟨o', e', _, n', d'⟩, _⟩ := I.tuple h'
  rw [e] at e'; cases e'
  rw [d] at d'
  injection d' with d1 _
  have : its = its' := by simpa using congrArg Array.toList d1
  subst this
  exact r.inj r'
end
abbrev Cx.wish (X : Cx) (E : Value → Shared → Prop) : Cx := { X with xe := E }
abbrev Cx.nox (X : Cx) : Cx := X.wish fun _ _ => False
theorem Cx.Ok.wish {X : Cx} (ok : X.Ok) (E : Value → Shared → Prop) : (X.wish E).Ok :=
  ⟨ok.mod, ok.kind, ok.glob, ok.blt, ok.above, ok.inj, ok.has, ok.cab, ok.hd, ok.frames, ok.stk, ok.exf, ok.bs, ok.bsz, ok.noex, ok.exfs, ok.funs, ok.frf⟩
theorem Cx.Ok.unwish {X : Cx} {E : Value → Shared → Prop} (ok : (X.wish E).Ok) : X.Ok :=
  ⟨ok.mod, ok.kind, ok.glob, ok.blt, ok.above, ok.inj, ok.has, ok.cab, ok.hd, ok.frames, ok.stk, ok.exf, ok.bs, ok.bsz, ok.noex, ok.exfs, ok.funs, ok.frf⟩
section
variable {X : Cx} {pins : List (Addr × Obj)} {σ : St} {H : Hp} {s : Shared} {E : Value → Shared → Prop}
theorem Inv.wish (I : Inv X pins σ H s) (E : Value → Shared → Prop) : Inv (X.wish E) pins σ H s := ⟨I.ok.wish E, I.os, I.bare, I.base, I.loc, I.cell, I.free, I.freeC, I.pin, I.hok, I.len⟩
theorem Inv.unwish (I : Inv (X.wish E) pins σ H s) : Inv X pins σ H s := ⟨I.ok.unwish, I.os, I.bare, I.base, I.loc, I.cell, I.free, I.freeC, I.pin, I.hok, I.len⟩
theorem SP.unwish {D : Ends} {f : Flow} {s' : Shared} (h : SP (X.wish E) pins D f s') : SP X pins D f s' := by
  cases f with
  | next => obtain ⟨σ', H', I, q⟩ := h; exact ⟨σ', H', I.unwish, q⟩
  | brk => obtain ⟨σ', H', I, q⟩ := h; exact ⟨σ', H', I.unwish, q⟩
  | cont => obtain ⟨σ', H', I, q⟩ := h; exact ⟨σ', H', I.unwish, q⟩
  | ret u => obtain ⟨v, σ', H', I, r, q⟩ := h; exact ⟨v, σ', H', I.unwish, r, q⟩
theorem PSs.nox {st : List Stmt} {t : TS} (h : PSs X.nox st t) : PSs X st t := fun pins s σ H D I hw =>
  wpAny_mono (h pins s σ H D (I.wish _) hw) (fun _ _ q => q.unwish) fun _ _ z => False.elim z
end
section
variable {X : Cx} {st : Stmt} {rest : List Stmt} {t u : TS} {e : Expr} {te : TE} {pos : Pos}
def tNext : TS := fun D σ H => D.nx σ H
def tSeq (t u : TS) : TS := fun D σ H => t { D with nx := u D } σ H
theorem pss_nil : PSs X [] tNext := fun _ _ σ H _ I h => wpAny_execs_nil ⟨σ, H, I, h⟩
theorem pss_cons (h1 : PS X st t) (h2 : PSs X rest u) : PSs X (st :: rest) (tSeq t u) := by
  intro pins s σ H D I h
  refine wpAny_execs_cons (thn (h1 pins s σ H { D with nx := u D } I h) fun f s1 q => ?_)
  cases f with
  | next =>
    obtain ⟨σ', H', I', q⟩ := q
    exact h2 pins s1 σ' H' D I' q
  | ret v => exact q
  | brk => exact q
  | cont => exact q
theorem pss_one (h1 : PS X st t) : PSs X [st] t := by
  intro pins s σ H D I h
  refine wpAny_execs_cons (thn (h1 pins s σ H D I h) fun f s1 q => ?_)
  cases f with
  | next => exact wpAny_execs_nil q
  | ret v => exact q
  | brk => exact q
  | cont => exact q
def tBreak : TS := fun D σ H => D.bk σ H
def tCont : TS := fun D σ H => D.ct σ H
theorem Inv.quiet {pins : List (Addr × Obj)} {σ : St} {H : Hp} {s : Shared} (I : Inv X pins σ H s) : interactive X.env = false := by simp [interactive, I.ok.kind]
def tDrop (te : TE) : TS := fun D σ H => te σ H fun _ H1 => D.nx σ H1
theorem ps_expr (he : PE X e te) (hs : swapsWith e none pos.line X.env = pure false := by rfl) : PS X (.Expr e pos) (tDrop te) := by
  intro pins s σ H D I h
  exact wpAny_Expr_any (thn (he pins s σ H _ I h) fun v s1 ⟨x, H1, I1, r1, q1⟩ => ⟨σ, H1, I1, q1⟩) I.quiet hs
def tRet (te : TE) : TS := fun D σ H => te σ H D.rt
theorem ps_ret (he : PE X e te) : PS X (.Return (some e) pos) (tRet te) := by
  intro pins s σ H D I h
  exact wpAny_Return_some (thn (he pins s σ H _ I h) fun v s1 ⟨x, H1, I1, r1, q1⟩ => ⟨x, σ, H1, I1, r1, q1⟩)
def tRetN : TS := fun D _ H => D.rt .non H
def tIfS (c : TT) (t u : TS) : TS := fun D σ H => c σ H fun b H1 => if b = true then t D σ H1 else u D σ H1
theorem ps_if {c : Expr} {a b : List Stmt} {tc : TT} (hc : PT X c tc) (ha : PSs X a t) (hb : PSs X b u) : PS X (.If c a b pos) (tIfS tc t u) := by
  intro pins s σ H D I h
  refine wpAny_If (thn (hc pins s σ H _ I h) fun d s1 ⟨H1, I1, q1⟩ => ?_)
  cases d with
  | true => exact ha pins s1 σ H1 D I1 q1
  | false => exact hb pins s1 σ H1 D I1 q1
def tNever : TS := fun _ _ _ => False
theorem ps_never : PS X st tNever := fun _ _ _ _ _ _ h => h.elim
end
abbrev TG := V → St → Hp → (St → Hp → Prop) → Prop
abbrev TGs := List V → St → Hp → (St → Hp → Prop) → Prop
def PG (X : Cx) (target : Expr) (t : TG) : Prop :=
  ∀ (pins : List (Addr × Obj)) (s : Shared) (σ : St) (H : Hp) (v : V) (u : Value) (Q : St → Hp → Prop), Inv X pins σ H s → RelV v u → t v σ H Q →
    wpAny (model X.prog X.w) X.A (assign target X.env u) (fun _ s' => ∃ σ' H', Inv X pins σ' H' s' ∧ Q σ' H') X.xe s
def PGs (X : Cx) (ts : List Expr) (t : TGs) : Prop :=
  ∀ (pins : List (Addr × Obj)) (s : Shared) (σ : St) (H : Hp) (vs : List V) (us : List Value) (Q : St → Hp → Prop), Inv X pins σ H s → Vals vs us → t vs σ H Q →
    wpAny (model X.prog X.w) X.A (assignInOrder ((assignEach ts X.env).map (·.2)) us) (fun _ s' => ∃ σ' H', Inv X pins σ' H' s' ∧ Q σ' H') X.xe s
abbrev TSet := V → V → V → Hp → (Hp → Prop) → Prop
def PSet (X : Cx) (t : TSet) : Prop :=
  ∀ (pins : List (Addr × Obj)) (s : Shared) (σ : St) (H : Hp) (o i v : V) (ov iv u : Value) (Q : Hp → Prop), Inv X pins σ H s → RelV o ov → RelV i iv → RelV v u → t o i v H Q →
    wpAny (model X.prog X.w) X.A (setItem ov iv u) (fun _ s' => ∃ H', Inv X pins σ H' s' ∧ Q H') X.xe s
abbrev TIp := V → V → Hp → VK → Prop
section
variable {X : Cx} {pos : Pos}
def gName (i : Nat) : TG := fun v σ H Q => Q (σ.set i (some v)) H
theorem pg_name {i : Nat} {x : Str} (hN : X.N.Nodup) (hi : X.N[i]? = some x) (hx : Loc X.env.scope x) (hf : X.fn x = true ∨ X.env.scope.names.lookup x = some .local := by first | exact .inl rfl | exact .inr rfl | assumption) : PG X (.Name x pos) (gName i) := by
  intro pins s σ H v u Q I r h
  exact wpAny_assign_Name (store_ok I hN hi hx r (fun s' I' => ⟨_, H, I', h⟩) hf)
def gNil : TGs := fun vs σ H Q => vs = [] ∧ Q σ H
def gCons (t : TG) (u : TGs) : TGs := fun vs σ H Q => ∃ v r, vs = v :: r ∧ t v σ H fun σ' H' => u r σ' H' Q
theorem pgs_nil : PGs X [] gNil := by
  intro pins s σ H vs us Q I r h
  obtain ⟨e, h⟩ := h
  subst e
  cases r
  exact assignInOrder_nil ⟨σ, H, I, h⟩
theorem pgs_cons {e : Expr} {es : List Expr} {t : TG} {u : TGs} (h1 : PG X e t) (h2 : PGs X es u)
    (hs : (assignEach (e :: es) X.env).map (·.2) = assign e X.env :: (assignEach es X.env).map (·.2) := by rfl) : PGs X (e :: es) (gCons t u) := by
  intro pins s σ H vs us Q I r h
  obtain ⟨v, vr, e1, h⟩ := h
  subst e1
  cases r with
  | cons r rr =>
    rw [hs]
    refine assignInOrder_cons (thn (h1 pins s σ H _ _ _ I r h) fun _ s1 ⟨σ1, H1, I1, q1⟩ => ?_)
    exact h2 pins s1 σ1 H1 _ _ Q I1 rr q1
def gTup (K : PySem.W.Frag) (n : Nat) (t : TGs) : TG := fun v σ H Q => ∃ a xs, v = .ref a ∧ SqT K H a xs ∧ xs.length = n ∧ t xs σ H Q
theorem pg_tup {es : List Expr} {k : Nat} {t : TGs} {n : Nat} (hc : X.calm = true) (h : PGs X es t)
    (hn : (assignEach es X.env).length = n := by rfl) (hst : (assignEach es X.env).findIdx? (·.1) = none := by rfl) : PG X (.Tuple es k pos) (gTup X.K n t) := by
  intro pins s σ H v u Q I r hw
  obtain ⟨a, xs, e1, hq, hl, hw⟩ := hw
  subst e1
  cases r
  obtain ⟨its, rv, ht, hz⟩ := I.tuple hq
  refine assign_Tuple_tuple (I.ok.hd hc) ht (by simp [hn, ← hl, rv.length]) hst fun h' hx => ?_
  have I1 : Inv X pins σ H { s with heap := h' } := I.kept (t' := s.toks) fun b o e => hx b o (Nat.ne_of_lt (Heap.lt_size e)) e
  exact h pins _ σ H xs _ Q I1 (by simpa using rv) hw
def gSub (to ti : TE) (t : TSet) : TG := fun v σ H Q => to σ H fun o H1 => ti σ H1 fun i H2 => t o i v H2 fun H3 => Q σ H3
theorem pg_sub {o i : Expr} {to ti : TE} {t : TSet} (ho : PE X o to) (hi : PE X i ti) (hs : PSet X t)
    (ha : ∀ v, assign (.Subscript o i pos) X.env v = (do
      let ov ← holding [v] (eval o X.env)
      let iv ← holding [v, ov] (eval i X.env)
      standAt pos
      holding [v, ov, iv] (setItem ov iv v)
      release [v, ov, iv] []) := by intro _; rfl) : PG X (.Subscript o i pos) (gSub to ti t) := by
  intro pins s σ H v u Q I r h
  rw [ha]
  refine wpAny_bind (wpAny_holding (thn (ho pins s σ H _ I h) fun ov s1 ⟨x, H1, I1, r1, q1⟩ => ?_))
  refine wpAny_bind (wpAny_holding (thn (hi pins s1 σ H1 _ I1 q1) fun iv s2 ⟨y, H2, I2, r2, q2⟩ => ?_))
  refine wpAny_bind (wpAny_standAt (wpAny_bind (wpAny_holding (thn (hs pins s2 σ H2 x y v ov iv u _ I2 r1 r2 r q2) fun _ s3 ⟨H3, I3, q3⟩ => ?_))))
  exact wpAny_release ⟨σ, H3, I3, q3⟩
def tAsg (te : TE) (g : TG) : TS := fun D σ H => te σ H fun x H1 => g x σ H1 D.nx
theorem ps_asg {tg e : Expr} {te : TE} {g : TG} (he : PE X e te) (hg : PG X tg g) (hs : swapsWithSole [tg] e pos.line X.env = pure false := by rfl) (hw : swappedStores [tg] e X.env = pure none := by rfl)
    (h1 : (assignEach [tg] X.env).map (·.2) = [assign tg X.env] := by rfl) : PS X (.Assign [tg] e pos) (tAsg te g) := by
  intro pins s σ H D I h
  refine wpAny_Assign_stores (thn (he pins s σ H _ I h) fun v s1 ⟨x, H1, I1, r1, q1⟩ => ?_) hs hw
  rw [h1]
  exact thn (hg pins s1 σ H1 x v _ I1 r1 q1) fun _ s2 q => q
theorem ps_set {i : Nat} {x : Str} {e : Expr} {te : TE} {pos' : Pos} (hN : X.N.Nodup) (hi : X.N[i]? = some x) (hx : Loc X.env.scope x) (he : PE X e te) (hs : swapsWith e (some (.Name x pos')) pos.line X.env = pure false := by rfl) (hf : X.fn x = true ∨ X.env.scope.names.lookup x = some .local := by first | exact .inl rfl | exact .inr rfl | assumption) :
    PS X (.Assign [.Name x pos'] e pos) (tAsg te (gName i)) := by
  intro pins s σ H D I h
  refine wpAny_Assign_Name (thn (he pins s σ H _ I h) fun v s1 ⟨y, H1, I1, r1, q1⟩ => ?_) hs
  exact store_ok I1 hN hi hx r1 (fun s2 I2 => ⟨_, H1, I2, q1⟩) hf
def tAug (i : Nat) (te : TE) (ti : TIp) : TS := fun D σ H => ∃ x, σ[i]? = some (some x) ∧ te σ H fun y H1 => ti x y H1 fun z H2 => D.nx (σ.set i (some z)) H2
def ipI (f : Int → Int → Int) : TIp := fun x y H Q => ∃ i j, x = .int i ∧ y = .int j ∧ Q (.int (f i j)) H
end
section
variable {X : Cx} {pos : Pos}
end
structure It where
  go : Nat → Hp → Prop
  yld : Nat → Hp → V → Hp → Prop
  stop : Nat → Hp → Prop
def FpOk (X : Cx) (pins : List (Addr × Obj)) (H : Hp) (b : Addr) : Prop :=
  H b = none ∧ b ≠ X.env.locals ∧ b ∉ X.fs ∧ (b ∈ X.ex ∨ X.s₀.heap.objs.size ≤ b) ∧ (∀ x c, X.env.cells.lookup x = some c → c ≠ b) ∧ ∀ p ∈ X.pn ++ pins, p.1 ≠ b
theorem Inv.fpOk {X : Cx} {pins : List (Addr × Obj)} {σ : St} {H H' : Hp} {s : Shared} {b : Addr} (I : Inv X pins σ H s) (hb : s.heap.objs.size ≤ b) (hn : H' b = none) : FpOk X pins H' b := by
  refine ⟨hn, Nat.ne_of_gt (Nat.lt_of_lt_of_le I.lt hb), I.nofs hb, .inr (Nat.le_trans I.sz hb), fun x c e z => ?_, fun p hp z => ?_⟩
  · obtain ⟨v, q⟩ := I.cell x c e
    exact absurd (Nat.lt_of_lt_of_le q.lt (by rw [z]; exact hb)) (Nat.lt_irrefl _)
  · exact absurd (Nat.lt_of_lt_of_le (Heap.lt_size (I.pin p hp).1) (by rw [z]; exact hb)) (Nat.lt_irrefl _)
structure Turn (P : Program) (w : World) (K : PySem.W.Frag) (tg : Expr) (J : It) (fp : List Addr) (it : Addr) (tn : Nat → Heap → Prop) : Prop where
  mem : it ∈ fp
  obj : ∀ i h, tn i h → ∀ b ∈ fp, ∃ o, h.get? b = some o ∧ ∀ v, o.data ≠ .cell v
  keep : ∀ i h h', tn i h → (∀ b ∈ fp, ∀ o, h.get? b = some o → h'.get? b = some o) → tn i h'
  item : ∀ (X : Cx), X.prog = P → X.w = w → X.K = K → X.calm = true → ∀ (i : Nat) (pins : List (Addr × Obj)) (s : Shared) (σ : St) (H : Hp) (E : Value → Shared → Prop), Inv X pins σ H s → (∀ b ∈ fp, FpOk X pins H b) → tn i s.heap → J.go i H →
    wpAny (model P w) X.A (pyNext (.ref it)) (fun r s1 => ∃ u, r = some u ∧
      wpAny (model P w) X.A (letOwnedTupleGo tg (.ref it) u) (fun _ s2 => ∃ x H', Inv X pins σ H' s2 ∧ RelV x u ∧ J.yld i H x H' ∧ tn (i + 1) s2.heap ∧ ∀ b ∈ fp, H' b = none) E s1) E s
  done : ∀ (X : Cx), X.prog = P → X.w = w → X.K = K → X.calm = true → ∀ (i : Nat) (pins : List (Addr × Obj)) (s : Shared) (σ : St) (H : Hp) (E : Value → Shared → Prop), Inv X pins σ H s → (∀ b ∈ fp, FpOk X pins H b) → tn i s.heap → J.stop i H →
    wpAny (model P w) X.A (pyNext (.ref it)) (fun r s1 => r = none ∧ Inv X pins σ H s1) E s
  self : ∀ (A : Around) (i : Nat) (s : Shared) (Q : Value → Shared → Prop) (E : Value → Shared → Prop), tn i s.heap → Q (.ref it) s → wpAny (model P w) A (pyIter (.ref it)) Q E s
abbrev TI := St → Hp → (It → Hp → Prop) → Prop
def PIE (X : Cx) (pins : List (Addr × Obj)) (σ : St) (tg : Expr) (R : It → Hp → Prop) (itv : Value) (s2 : Shared) : Prop :=
  ∃ (it : Addr) (fp : List Addr) (tn : Nat → Heap → Prop) (J : It) (H' : Hp), itv = .ref it ∧ Inv X pins σ H' s2 ∧ Turn X.prog X.w X.K tg J fp it tn ∧ tn 0 s2.heap ∧ (∀ b ∈ fp, FpOk X pins H' b) ∧ R J H'
def PI (X : Cx) (tg iter : Expr) (wi : TI) : Prop :=
  ∀ (pins : List (Addr × Obj)) (s : Shared) (σ : St) (H : Hp) (R : It → Hp → Prop), Inv X pins σ H s → wi σ H R →
    wpAny (model X.prog X.w) X.A (eval iter X.env) (fun v s1 => wpAny (model X.prog X.w) X.A (pyIter v) (PIE X pins σ tg R) X.xe s1) X.xe s
theorem go_of {M : Model} {A : Around} {E : Value → Shared → Prop} {s : Shared} {tg : Expr} {it : Addr} {u : Value} {o : Obj} {n : String} {vs : Array Value} {Q : Unit → Shared → Prop} (ho : s.heap.get? it = some o) (hc : o.cls = .type n) (hd : o.data = .fields vs)
    (hn : ["enumerate", "zip", "dict_itemiterator", "dict_reverseitemiterator", "odict_iterator", "itertools.zip_longest", "itertools.pairwise"].contains n = false) (hQ : Q () s) : wpAny M A (letOwnedTupleGo tg (.ref it) u) Q E s := by
  unfold letOwnedTupleGo
  cases tg <;> first
    | exact wpAny_pure hQ
    | (cases u <;> first
        | exact wpAny_pure hQ
        | (refine wpAny_bind (wpAny_load ho ?_)
           rw [hc, hd]
           show wpAny M A (if (["enumerate", "zip", "dict_itemiterator", "dict_reverseitemiterator", "odict_iterator", "itertools.zip_longest", "itertools.pairwise"].contains n && vs[0]? == some (rawInt _)) = true then _ else _) Q E s
           rw [if_neg (by intro h; rw [hn, Bool.false_and] at h; cases h)]
           exact wpAny_pure hQ))
def Itl (K : PySem.W.Frag) (a : Addr) : It :=
  ⟨fun i H => ∃ xs x, SqL K H a xs ∧ xs[i]? = some x, fun i H x H' => H' = H ∧ ∀ xs, SqL K H a xs → xs[i]? = some x, fun i H => ∃ xs, SqL K H a xs ∧ xs.length ≤ i⟩
def Itt (K : PySem.W.Frag) (a : Addr) : It :=
  ⟨fun i H => ∃ xs x, SqT K H a xs ∧ xs[i]? = some x, fun i H x H' => H' = H ∧ ∀ xs, SqT K H a xs → xs[i]? = some x, fun i H => ∃ xs, SqT K H a xs ∧ xs.length ≤ i⟩
def Itr (lo : Int) (n : Nat) : It := ⟨fun i _ => i < n, fun i H x H' => H' = H ∧ x = .int (lo + i), fun i _ => n ≤ i⟩
theorem turn_list {P : Program} {w : World} {K : PySem.W.Frag} {tg : Expr} (a it : Addr) : Turn P w K tg (Itl K a) [it] it (fun i h => h.IsListIter it a i) where
  mem := by simp
  obj := fun i h st b hb => by
    have e : b = it := by simpa using hb
    subst e
    obtain ⟨o, e, c, d⟩ := st
    exact ⟨o, e, fun v z => by rw [d] at z; cases z⟩
  keep := fun i h h' st k => st.at fun o e => k it (by simp) o e
  item := by
    intro X hP hw hK hc i pins s σ H E I hf st hg
    subst hP hw hK
    obtain ⟨xs, x, hq, hx⟩ := hg
    obtain ⟨its, rv, p, hz⟩ := I.list hq
    obtain ⟨u, hu, ru⟩ := rv.get hx
    obtain ⟨f0, f1, f2, f3, f4, f5⟩ := hf it (by simp)
    refine wpAny_pyNext_list_item st p.isList (x := u) (by simpa using hu) fun h' st' sb => ?_
    have I1 : Inv X pins σ H { s with heap := h' } := I.turned (t' := s.toks) (fun b o hb e => (sb.2 b hb).trans e) f0 f1 f3 f4 f5
    obtain ⟨o, e, c, d⟩ := id st'
    exact ⟨u, rfl, go_of (s := { s with heap := h' }) e c d (by decide) ⟨x, H, I1, ru, ⟨rfl, fun ys hy => by rw [I.list_inj hy hq]; exact hx⟩, st', fun b hb => (hf b hb).1⟩⟩
  done := by
    intro X hP hw hK hc i pins s σ H E I hf st hg
    subst hP hw hK
    obtain ⟨xs, hq, hx⟩ := hg
    obtain ⟨its, rv, p, hz⟩ := I.list hq
    obtain ⟨f0, f1, f2, f3, f4, f5⟩ := hf it (by simp)
    have hl := rv.length
    exact wpAny_pyNext_list_end (I.ok.hd hc) st p.isList (by simp; omega) fun h' eb => ⟨rfl, I.turned (t' := s.toks) (fun b o hb e => eb b o hb e) f0 f1 f3 f4 f5⟩
  self := fun _ _ _ _ _ st h => wpAny_pyIter_listiter st h
theorem turn_tuple {P : Program} {w : World} {K : PySem.W.Frag} {tg : Expr} (a it : Addr) : Turn P w K tg (Itt K a) [it] it (fun i h => h.IsTupleIter it a i) where
  mem := by simp
  obj := fun i h st b hb => by
    have e : b = it := by simpa using hb
    subst e
    obtain ⟨o, e, c, d⟩ := st
    exact ⟨o, e, fun v z => by rw [d] at z; cases z⟩
  keep := fun i h h' st k => st.at fun o e => k it (by simp) o e
  item := by
    intro X hP hw hK hc i pins s σ H E I hf st hg
    subst hP hw hK
    obtain ⟨xs, x, hq, hx⟩ := hg
    obtain ⟨its, rv, p, hz⟩ := I.tuple hq
    obtain ⟨u, hu, ru⟩ := rv.get hx
    obtain ⟨f0, f1, f2, f3, f4, f5⟩ := hf it (by simp)
    refine wpAny_pyNext_tuple_item st (show s.heap.IsTuple a its.toArray from p) (x := u) (by simpa using hu) fun h' st' sb => ?_
    have I1 : Inv X pins σ H { s with heap := h' } := I.turned (t' := s.toks) (fun b o hb e => (sb.2 b hb).trans e) f0 f1 f3 f4 f5
    obtain ⟨o, e, c, d⟩ := id st'
    exact ⟨u, rfl, go_of (s := { s with heap := h' }) e c d (by decide) ⟨x, H, I1, ru, ⟨rfl, fun ys hy => by rw [I.tuple_inj hy hq]; exact hx⟩, st', fun b hb => (hf b hb).1⟩⟩
  done := by
    intro X hP hw hK hc i pins s σ H E I hf st hg
    subst hP hw hK
    obtain ⟨xs, hq, hx⟩ := hg
    obtain ⟨its, rv, p, hz⟩ := I.tuple hq
    obtain ⟨f0, f1, f2, f3, f4, f5⟩ := hf it (by simp)
    have hl := rv.length
    exact wpAny_pyNext_tuple_end (I.ok.hd hc) st (show s.heap.IsTuple a its.toArray from p) (by simp; omega) fun h' eb => ⟨rfl, I.turned (t' := s.toks) (fun b o hb e => eb b o hb e) f0 f1 f3 f4 f5⟩
  self := fun _ _ _ _ _ st h => wpAny_pyIter_tupleiter st h
theorem turn_range {P : Program} {w : World} {K : PySem.W.Frag} {tg : Expr} (it : Addr) (lo : Int) (n : Nat) : Turn P w K tg (Itr lo n) [it] it (fun i h => IsRangeIter h it (lo + (i : Nat) * 1) ((n : Int) - (i : Nat)) 1) where
  mem := by simp
  obj := fun i h st b hb => by
    have e : b = it := by simpa using hb
    subst e
    exact ⟨_, st, fun v z => by
      have z' : Data.fields _ = Data.cell v := z
      cases z'⟩
  keep := fun i h h' st k => k it (by simp) _ st
  item := by
    intro X hP hw hK hc i pins s σ H E I hf st hg
    subst hP hw hK
    obtain ⟨f0, f1, f2, f3, f4, f5⟩ := hf it (by simp)
    have W := Walks.range (prog := X.prog) (w := X.w) (I.ok.hd hc) it lo 1 n
    refine W.item i s _ _ hg st fun v h' tk hv st' kk => ?_
    obtain ⟨t, rfl⟩ := hv
    have I1 : Inv X pins σ H { s with heap := h', toks := tk } := I.turned (fun b o hb e => kk b o (by simpa using hb) e) f0 f1 f3 f4 f5
    refine ⟨_, rfl, go_of (s := { s with heap := h', toks := tk }) (n := "range_iterator") st' rfl rfl (by decide) ⟨.int (lo + i), H, I1, ⟨t, ?_⟩, ⟨rfl, rfl⟩, st', fun b hb => (hf b hb).1⟩⟩
    rw [Int.mul_one]
  done := by
    intro X hP hw hK hc i pins s σ H E I hf st hg
    subst hP hw hK
    obtain ⟨f0, f1, f2, f3, f4, f5⟩ := hf it (by simp)
    exact wpAny_pyNext_range_end (I.ok.hd hc) st (by have : n ≤ i := hg; omega) fun h' eb => ⟨rfl, I.turned (t' := s.toks) (fun b o hb e => eb b o hb e) f0 f1 f3 f4 f5⟩
  self := fun _ _ _ _ _ st h => wpAny_pyIter_rangeiter st h
end L2
namespace L2
open PySem PySem.Spec PyProof.Rows
section
variable {X : Cx} {tg : Expr}
def iList (K : PySem.W.Frag) (tl : TE) : TI := fun σ H R => tl σ H fun x H1 => ∃ a, x = .ref a ∧ (∃ xs, SqL K H1 a xs) ∧ R (Itl K a) H1
def iTup (K : PySem.W.Frag) (tl : TE) : TI := fun σ H R => tl σ H fun x H1 => ∃ a, x = .ref a ∧ (∃ xs, SqT K H1 a xs) ∧ R (Itt K a) H1
theorem pi_list {l : Expr} {tl : TE} (hl : PE X l tl) : PI X tg l (iList X.K tl) := by
  intro pins s σ H R I h
  refine thn (hl pins s σ H _ I h) fun v s1 ⟨x, H1, I1, r1, q1⟩ => ?_
  obtain ⟨a, e, ⟨xs, hq⟩, q⟩ := q1
  subst e
  cases r1
  obtain ⟨its, rv, p, hz⟩ := I1.list hq
  refine wpAny_pyIter_list p.isList ?_
  refine ⟨s1.heap.objs.size, [s1.heap.objs.size], _, _, H1, rfl, I1.kept (t' := s1.toks) fun b o e => Heap.get?_push_of_some _ e, turn_list a _, ⟨_, Heap.get?_push_size _ rfl, rfl, rfl⟩, fun b hb => ?_, q⟩
  have e : b = s1.heap.objs.size := by simpa using hb
  subst e
  exact I1.fpOk (Nat.le_refl _) (I1.hok.fresh (Nat.le_refl _))
theorem pi_tup {l : Expr} {tl : TE} (hl : PE X l tl) : PI X tg l (iTup X.K tl) := by
  intro pins s σ H R I h
  refine thn (hl pins s σ H _ I h) fun v s1 ⟨x, H1, I1, r1, q1⟩ => ?_
  obtain ⟨a, e, ⟨xs, hq⟩, q⟩ := q1
  subst e
  cases r1
  obtain ⟨its, rv, p, hz⟩ := I1.tuple hq
  refine wpAny_pyIter_tuple (show s1.heap.IsTuple a its.toArray from p) ?_
  refine ⟨s1.heap.objs.size, [s1.heap.objs.size], _, _, H1, rfl, I1.kept (t' := s1.toks) fun b o e => Heap.get?_push_of_some _ e, turn_tuple a _, ⟨_, Heap.get?_push_size _ rfl, rfl, rfl⟩, fun b hb => ?_, q⟩
  have e : b = s1.heap.objs.size := by simpa using hb
  subst e
  exact I1.fpOk (Nat.le_refl _) (I1.hok.fresh (Nat.le_refl _))
theorem range_it {pins : List (Addr × Obj)} {σ : St} {H : Hp} {s : Shared} {R : It → Hp → Prop} {E : Value → Shared → Prop} {lo hi : Int} {t u v : Tok} {tk : Nat} (I : Inv X pins σ H s) (h1 : -(2 ^ 62) ≤ lo) (h2 : lo < 2 ^ 62) (h3 : -(2 ^ 62) ≤ hi) (h4 : hi < 2 ^ 62)
    (q : R (Itr lo (hi - lo).toNat) H) : wpAny (model X.prog X.w) X.A (pyIter (.ref s.heap.objs.size)) (PIE X pins σ tg R) E { s with heap := s.heap.push { cls := .type "range", data := .fields #[.int lo t, .int hi u, .int 1 v] }, toks := tk } := by
  refine wpAny_pyIter_range (IsRange.new ..) (small_one h1 h2 h3 h4) ?_
  have I1 : Inv X pins σ H { s with heap := s.heap.push { cls := .type "range", data := .fields #[.int lo t, .int hi u, .int 1 v] }, toks := tk } := I.kept fun b o e => Heap.get?_push_of_some _ e
  refine ⟨(s.heap.push { cls := .type "range", data := .fields #[.int lo t, .int hi u, .int 1 v] }).objs.size, [(s.heap.push { cls := .type "range", data := .fields #[.int lo t, .int hi u, .int 1 v] }).objs.size], _, _, H, rfl,
    I1.kept (t' := tk) fun b o e => Heap.get?_push_of_some _ e, turn_range _ lo (hi - lo).toNat, ?_, fun b hb => ?_, q⟩
  · have e1 : lo + ((0 : Nat) : Int) * 1 = lo := by simp
    have e2 : (((hi - lo).toNat : Nat) : Int) - ((0 : Nat) : Int) = Builtin.Range.rangeSize lo hi 1 := by rw [rangeSize_one]; split <;> omega
    show IsRangeIter _ _ (lo + ((0 : Nat) : Int) * 1) ((((hi - lo).toNat : Nat) : Int) - ((0 : Nat) : Int)) 1
    rw [e1, e2]
    exact Heap.get?_push_size _ rfl
  · have e : b = (s.heap.push { cls := .type "range", data := .fields #[.int lo t, .int hi u, .int 1 v] }).objs.size := by simpa using hb
    subst e
    exact I1.fpOk (Nat.le_refl _) (I1.hok.fresh (Nat.le_refl _))
def iRng1 (ta : TA) : TI := fun σ H R => ta σ H fun vs H1 => ∃ j : Int, vs = [.int j] ∧ -(2 ^ 62) ≤ j ∧ j < 2 ^ 62 ∧ R (Itr 0 j.toNat) H1
def iRng2 (ta : TA) : TI := fun σ H R => ta σ H fun vs H1 => ∃ i j : Int, vs = [.int i, .int j] ∧ (-(2 ^ 62) ≤ i ∧ i < 2 ^ 62 ∧ -(2 ^ 62) ≤ j ∧ j < 2 ^ 62) ∧ R (Itr i (j - i).toNat) H1
theorem pi_range1 {a : Expr} {ta : TA} {p pos : Pos} (hg : Gl X "range") (hm : X.mg "range" = none) (ha : PA X [a] ta) (hs : starEach [a] X.env = [(false, eval a X.env)] := by rfl) : PI X tg (.Call (.Name "range" p) [a] [] pos) (iRng1 ta) := by
  intro pins s σ H R I h
  refine Call_ (ld_blt I hg hm boot_range (PyProof.Rows.callWith_type1 (thn (ha pos pins s σ H _ I h) fun us s1 ⟨vs, H1, I1, r1, q1⟩ => ?_) hs rfl))
  obtain ⟨j, e, q1, q2, q⟩ := q1
  subst e
  cases r1 with
  | cons r rr =>
    cases rr
    obtain ⟨t, rfl⟩ := r
    exact call_range_1 (range_it I1 (by omega) (by omega) q1 q2 (by simpa using q))
def tFor (wi : TI) (g : TG) (tb : TS) : TS := fun D σ H => wi σ H fun J H1 => ∃ W : Nat → Nat → St → Hp → Prop, (∃ m, W 0 m σ H1) ∧ ∀ i m σ H, W i m σ H →
  (J.stop i H ∧ D.nx σ H) ∨ (J.go i H ∧ ∃ N : St → Hp → Prop, (∀ σ' H', N σ' H' → ∃ m', m' < m ∧ W (i + 1) m' σ' H') ∧ ∀ x H', J.yld i H x H' → g x σ H' fun σ2 H2 => tb { D with nx := N, ct := N, bk := D.nx } σ2 H2)
def pinsAt (fp : List Addr) (h : Heap) : List (Addr × Obj) := fp.filterMap fun b => (h.get? b).map fun o => (b, o)
theorem mem_pinsAt {fp : List Addr} {h : Heap} {b : Addr} {o : Obj} (hb : b ∈ fp) (e : h.get? b = some o) : (b, o) ∈ pinsAt fp h := List.mem_filterMap.mpr ⟨b, hb, by rw [e]; rfl⟩
theorem of_pinsAt {fp : List Addr} {h : Heap} {p : Addr × Obj} (hp : p ∈ pinsAt fp h) : p.1 ∈ fp ∧ h.get? p.1 = some p.2 := by
  obtain ⟨b, hb, e⟩ := List.mem_filterMap.mp hp
  cases q : h.get? b with
  | none => rw [q] at e; cases e
  | some o =>
    rw [q] at e
    have e' : (b, o) = p := Option.some.inj e
    subst e'
    exact ⟨hb, q⟩
theorem Inv.pinned {pins : List (Addr × Obj)} {σ : St} {H : Hp} {s : Shared} {fp : List Addr} (I : Inv X pins σ H s) (hf : ∀ b ∈ fp, FpOk X pins H b) (ho : ∀ b ∈ fp, ∃ o, s.heap.get? b = some o ∧ ∀ v, o.data ≠ .cell v) : Inv X (pins ++ pinsAt fp s.heap) σ H s :=
  I.pins_of fun p hp => (List.mem_append.mp hp).elim (fun z => I.pin p (List.mem_append_right _ z)) fun z => by
    obtain ⟨hb, e⟩ := of_pinsAt z
    obtain ⟨f0, f1, f2, _⟩ := hf p.1 hb
    obtain ⟨o, e', d⟩ := ho p.1 hb
    rw [e] at e'; cases e'
    exact ⟨e, f0, f1, f2, d⟩
theorem Inv.unpinned {pins pl : List (Addr × Obj)} {σ : St} {H : Hp} {s : Shared} (I : Inv X (pins ++ pl) σ H s) : Inv X pins σ H s := I.pins_of fun p hp => I.pin p (List.mem_append_right _ (List.mem_append_left _ hp))
theorem ps_for {iter : Expr} {body : List Stmt} {wi : TI} {g : TG} {tb : TS} {pos : Pos} (hp : PassesOwn (model X.prog X.w) X.A X.env X.xe) (hc : X.calm = true) (hi : PI X tg iter wi) (hg : PG X tg g) (hb : PSs X body tb)
    (hs : ∀ x, foldedSetIterable iter X.env x = pure x := by intro _; rfl) : PS X (.For tg iter body [] pos) (tFor wi g tb) := by
  intro pins s σ H D I h
  refine wpAny_For (thn (hi pins s σ H _ I h) fun v s1 h1 => thn h1 fun itv s2 h2 => ?_) hs
  obtain ⟨it, fp, tn, J, H2, e, I2, T, st2, f2, W, ⟨m0, w0⟩, turn⟩ := h2
  subst e
  -- what stays true of the iterator's objects through the loop
  have stat : ∀ {H' : Hp}, (∀ b ∈ fp, H' b = none) → ∀ b ∈ fp, FpOk X pins H' b := fun hn b hb => ⟨hn b hb, (f2 b hb).2⟩
  refine codeAny_forLoop_any (fun n s' => ∃ i σ' H', Inv X pins σ' H' s' ∧ tn i s'.heap ∧ (∀ b ∈ fp, H' b = none) ∧ W i n σ' H') ?_ m0 ⟨0, σ, H2, I2, st2, fun b hb => (f2 b hb).1, w0⟩
  rintro n s3 ⟨i, σ3, H3, I3, st3, fr3, w3⟩
  rcases turn i n σ3 H3 w3 with ⟨stop, qn⟩ | ⟨go, N, hN, step⟩
  · refine wpAny_passesOwn hp (thn (T.done X rfl rfl rfl hc i pins s3 σ3 H3 X.xe I3 (stat fr3) st3 stop) fun r s4 ⟨hr, I4⟩ => ?_)
    subst hr
    exact wpAny_execs_nil ⟨σ3, H3, I4, qn⟩
  · refine wpAny_passesOwn hp (thn (T.item X rfl rfl rfl hc i pins s3 σ3 H3 X.xe I3 (stat fr3) st3 go) fun r s4 ⟨u, hr, h4⟩ => ?_)
    subst hr
    refine wpAny_passesOwn hp (thn h4 fun _ s5 ⟨x, H5, I5, r5, y5, st5, fr5⟩ => ?_)
    have I5' := I5.pinned (stat fr5) (T.obj _ _ st5)
    refine wpAny_passesOwn hp (thn (hg _ s5 σ3 H5 x u _ I5' r5 (step x H5 y5)) fun _ s6 ⟨σ6, H6, I6, q6⟩ => ?_)
    refine wpAny_passesOwn hp (thn (hb _ s6 σ6 H6 _ I6 q6) fun f s7 q7 => ?_)
    have again : ∀ {σ7 : St} {H7 : Hp}, Inv X (pins ++ pinsAt fp s5.heap) σ7 H7 s7 → N σ7 H7 → ∃ m, m < n ∧ ∃ i σ' H', Inv X pins σ' H' s7 ∧ tn i s7.heap ∧ (∀ b ∈ fp, H' b = none) ∧ W i m σ' H' := fun {σ7 H7} I7 n7 => by
      obtain ⟨m', hm, w7⟩ := hN σ7 H7 n7
      refine ⟨m', hm, i + 1, σ7, H7, I7.unpinned, T.keep _ _ _ st5 fun b hb o e => (I7.pin (b, o) (List.mem_append_right _ (List.mem_append_right _ (mem_pinsAt hb e)))).1, fun b hb => ?_, w7⟩
      obtain ⟨o, e, d⟩ := T.obj _ _ st5 b hb
      exact (I7.pin (b, o) (List.mem_append_right _ (List.mem_append_right _ (mem_pinsAt hb e)))).2.1
    cases f with
    | next => obtain ⟨σ7, H7, I7, n7⟩ := q7; exact again I7 n7
    | cont => obtain ⟨σ7, H7, I7, n7⟩ := q7; exact again I7 n7
    | brk => obtain ⟨σ7, H7, I7, q7⟩ := q7; exact ⟨σ7, H7, I7.unpinned, q7⟩
    | ret v => obtain ⟨x7, σ7, H7, I7, r7, q7⟩ := q7; exact ⟨x7, σ7, H7, I7.unpinned, r7, q7⟩
end
theorem for_list {K : PySem.W.Frag} {a : Addr} {xs : List V} {g : TG} {tb : TS} {D : Ends} {σ : St} {H : Hp} (Pv : Nat → St → Hp → Prop) (h0 : Pv 0 σ H) (hl : ∀ i σ H, i ≤ xs.length → Pv i σ H → SqL K H a xs)
    (hs : ∀ i x σ H, xs[i]? = some x → Pv i σ H → g x σ H fun σ2 H2 => tb { D with nx := Pv (i + 1), ct := Pv (i + 1), bk := D.nx } σ2 H2) (hd : ∀ σ H, Pv xs.length σ H → D.nx σ H) :
    ∃ W : Nat → Nat → St → Hp → Prop, (∃ m, W 0 m σ H) ∧ ∀ i m σ H, W i m σ H →
      ((Itl K a).stop i H ∧ D.nx σ H) ∨ ((Itl K a).go i H ∧ ∃ N : St → Hp → Prop, (∀ σ' H', N σ' H' → ∃ m', m' < m ∧ W (i + 1) m' σ' H') ∧ ∀ x H', (Itl K a).yld i H x H' → g x σ H' fun σ2 H2 => tb { D with nx := N, ct := N, bk := D.nx } σ2 H2) := by
  refine ⟨fun i m σ H => m = xs.length - i ∧ i ≤ xs.length ∧ Pv i σ H, ⟨xs.length, by simp, Nat.zero_le _, h0⟩, ?_⟩
  rintro i m σ H ⟨rfl, hi, p⟩
  have q := hl i σ H hi p
  by_cases hlt : i < xs.length
  · refine .inr ⟨⟨xs, xs[i], q, by simp [hlt]⟩, Pv (i + 1), fun σ' H' p' => ⟨xs.length - (i + 1), by omega, rfl, hlt, p'⟩, fun x H' y => ?_⟩
    obtain ⟨e, y⟩ := y
    subst e
    exact hs i x σ _ (y xs q) p
  · have e : i = xs.length := by omega
    subst e
    exact .inl ⟨⟨xs, q, Nat.le_refl _⟩, hd σ H p⟩
theorem for_range {lo : Int} {n : Nat} {g : TG} {tb : TS} {D : Ends} {σ : St} {H : Hp} (Pv : Nat → St → Hp → Prop) (h0 : Pv 0 σ H)
    (hs : ∀ i σ H, i < n → Pv i σ H → g (.int (lo + i)) σ H fun σ2 H2 => tb { D with nx := Pv (i + 1), ct := Pv (i + 1), bk := D.nx } σ2 H2) (hd : ∀ σ H, Pv n σ H → D.nx σ H) :
    ∃ W : Nat → Nat → St → Hp → Prop, (∃ m, W 0 m σ H) ∧ ∀ i m σ H, W i m σ H →
      ((Itr lo n).stop i H ∧ D.nx σ H) ∨ ((Itr lo n).go i H ∧ ∃ N : St → Hp → Prop, (∀ σ' H', N σ' H' → ∃ m', m' < m ∧ W (i + 1) m' σ' H') ∧ ∀ x H', (Itr lo n).yld i H x H' → g x σ H' fun σ2 H2 => tb { D with nx := N, ct := N, bk := D.nx } σ2 H2) := by
  refine ⟨fun i m σ H => m = n - i ∧ i ≤ n ∧ Pv i σ H, ⟨n, by simp, Nat.zero_le _, h0⟩, ?_⟩
  rintro i m σ H ⟨rfl, hi, p⟩
  by_cases hlt : i < n
  · refine .inr ⟨hlt, Pv (i + 1), fun σ' H' p' => ⟨n - (i + 1), by omega, rfl, hlt, p'⟩, fun x H' y => ?_⟩
    obtain ⟨e, y⟩ := y
    subst e y
    exact hs i σ _ hlt p
  · have e : i = n := by omega
    subst e
    exact .inl ⟨Nat.le_refl _, hd σ H p⟩
end L2
namespace L2
open PySem PySem.Spec PyProof.Rows
abbrev R2 := V → V → Hp → VK → Prop
def OpR (X : Cx) (f : Value → Value → Sem Value) (r : R2) : Prop :=
  ∀ (pins : List (Addr × Obj)) (s : Shared) (σ : St) (H : Hp) (x y : V) (v u : Value) (Q : VK), Inv X pins σ H s → RelV x v → RelV y u → r x y H Q →
    wpAny (model X.prog X.w) X.A (f v u) (EP X pins σ Q) X.xe s
def UnR (X : Cx) (f : Value → Sem Value) (r : V → Hp → VK → Prop) : Prop :=
  ∀ (pins : List (Addr × Obj)) (s : Shared) (σ : St) (H : Hp) (x : V) (v : Value) (Q : VK), Inv X pins σ H s → RelV x v → r x H Q →
    wpAny (model X.prog X.w) X.A (f v) (EP X pins σ Q) X.xe s
def CallR (X : Cx) (f : Value) (r : List V → Hp → VK → Prop) : Prop :=
  ∀ (pins : List (Addr × Obj)) (s : Shared) (σ : St) (H : Hp) (xs : List V) (us : List Value) (Q : VK), Inv X pins σ H s → Vals xs us → r xs H Q →
    wpAny (model X.prog X.w) X.A (call f us) (EP X pins σ Q) X.xe s
def tOp (r : R2) (ta tb : TE) : TE := fun σ H Q => ta σ H fun x H1 => tb σ H1 fun y H2 => r x y H2 Q
def tUn (r : V → Hp → VK → Prop) (ta : TE) : TE := fun σ H Q => ta σ H fun x H1 => r x H1 Q
def rI (C : Int → Int → Prop) (g : Int → Int → V) : R2 := fun x y H Q => ∃ i j, x = .int i ∧ y = .int j ∧ C i j ∧ Q (g i j) H
def rI0 (g : Int → Int → V) : R2 := fun x y H Q => ∃ i j, x = .int i ∧ y = .int j ∧ Q (g i j) H
def rU (g : Int → V) : V → Hp → VK → Prop := fun x H Q => ∃ i, x = .int i ∧ Q (g i) H
section
variable {X : Cx} {a b c : Expr} {ta tb tc : TE} {pos : Pos}
theorem binT (ha : PE X a ta) (hb : PE X b tb) {pins : List (Addr × Obj)} {s : Shared} {σ : St} {H : Hp} {R : V → V → Hp → Prop} (I : Inv X pins σ H s)
    (h : ta σ H fun x H1 => tb σ H1 fun y H2 => R x y H2) {Q : Value → Shared → Prop} {f : Value → Value → Sem Value}
    (hf : ∀ v u s2 x y H2, Inv X pins σ H2 s2 → RelV x v → RelV y u → R x y H2 → wpAny (model X.prog X.w) X.A (f v u) Q X.xe s2) :
    wpAny (model X.prog X.w) X.A (eval a X.env) (fun v s₁ => wpAny (model X.prog X.w) X.A (eval b X.env) (fun u s₂ => wpAny (model X.prog X.w) X.A (f v u) Q X.xe s₂) X.xe s₁) X.xe s := by
  refine thn (ha pins s σ H _ I h) fun v s1 ⟨x, H1, I1, r1, q1⟩ => ?_
  refine thn (hb pins s1 σ H1 _ I1 q1) fun u s2 ⟨y, H2, I2, r2, q2⟩ => ?_
  exact hf v u s2 x y H2 I2 r1 r2 q2
theorem pe_op {op : Operator} {r : R2} (ho : OpR X (binaryOp op) r) (ha : PE X a ta) (hb : PE X b tb) : PE X (.BinOp a op b pos) (tOp r ta tb) := by
  intro pins s σ H Q I h
  exact wpAny_BinOp (binT ha hb I h fun v u s2 x y H2 I2 rx ry q => ho pins s2 σ H2 x y v u Q I2 rx ry q)
theorem pe_un {op : UnaryOp} {r : V → Hp → VK → Prop} (ho : UnR X (unaryOp op) r) (ha : PE X a ta) : PE X (.UnaryOp op a pos) (tUn r ta) := by
  intro pins s σ H Q I h
  exact UnaryOp_ (thn (ha pins s σ H _ I h) fun v s1 ⟨x, H1, I1, r1, q1⟩ => ho pins s1 σ H1 x v Q I1 r1 q1)
theorem opI {f : Value → Value → Sem Value} {C : Int → Int → Prop} {g : Int → Int → Int}
    (rule : ∀ (i j : Int) (t u : Tok) (s : Shared) (Q : Value → Shared → Prop) (E : Value → Shared → Prop), C i j → Q (.int (g i j) s.toks) { s with toks := s.toks + 1 } → wpAny (model X.prog X.w) X.A (f (.int i t) (.int j u)) Q E s) :
    OpR X f (rI C fun i j => .int (g i j)) := by
  intro pins s σ H x y v u Q I rx ry h
  obtain ⟨i, j, rfl, rfl, hc, q⟩ := h
  obtain ⟨t, rfl⟩ := rx
  obtain ⟨t', rfl⟩ := ry
  exact rule i j t t' s _ _ hc ⟨.int (g i j), H, I.tok _, ⟨_, rfl⟩, q⟩
theorem opI0 {f : Value → Value → Sem Value} {g : Int → Int → Int}
    (rule : ∀ (i j : Int) (t u : Tok) (s : Shared) (Q : Value → Shared → Prop) (E : Value → Shared → Prop), Q (.int (g i j) s.toks) { s with toks := s.toks + 1 } → wpAny (model X.prog X.w) X.A (f (.int i t) (.int j u)) Q E s) :
    OpR X f (rI0 fun i j => .int (g i j)) := by
  intro pins s σ H x y v u Q I rx ry h
  obtain ⟨i, j, rfl, rfl, q⟩ := h
  obtain ⟨t, rfl⟩ := rx
  obtain ⟨t', rfl⟩ := ry
  exact rule i j t t' s _ _ ⟨.int (g i j), H, I.tok _, ⟨_, rfl⟩, q⟩
theorem opB0 {f : Value → Value → Sem Value} {g : Int → Int → Bool}
    (rule : ∀ (i j : Int) (t u : Tok) (s : Shared) (Q : Value → Shared → Prop) (E : Value → Shared → Prop), Q (.bool (g i j)) s → wpAny (model X.prog X.w) X.A (f (.int i t) (.int j u)) Q E s) :
    OpR X f (rI0 fun i j => .bl (g i j)) := by
  intro pins s σ H x y v u Q I rx ry h
  obtain ⟨i, j, rfl, rfl, q⟩ := h
  obtain ⟨t, rfl⟩ := rx
  obtain ⟨t', rfl⟩ := ry
  exact rule i j t t' s _ _ ⟨.bl (g i j), H, I, rfl, q⟩
theorem op_add : OpR X (binaryOp .Add) (rI0 fun i j => .int (i + j)) := opI0 fun _ _ _ _ _ _ _ q => add_int q
theorem op_sub : OpR X (binaryOp .Sub) (rI0 fun i j => .int (i - j)) := opI0 fun _ _ _ _ _ _ _ q => sub_int q
theorem op_mod : OpR X (binaryOp .Mod) (rI (fun _ j => 0 < j) fun i j => .int (i % j)) := opI fun i j _ _ _ _ _ hc q => by
  have h1 : (0 : Int) < j := hc
  exact mod_int' (by omega) (by rw [Int.fmod_eq_emod_of_nonneg i (by omega)]; exact q)
theorem unI {f : Value → Sem Value} {g : Int → Int}
    (rule : ∀ (i : Int) (t : Tok) (s : Shared) (Q : Value → Shared → Prop) (E : Value → Shared → Prop), Q (.int (g i) s.toks) { s with toks := s.toks + 1 } → wpAny (model X.prog X.w) X.A (f (.int i t)) Q E s) :
    UnR X f (rU fun i => .int (g i)) := by
  intro pins s σ H x v Q I rx h
  obtain ⟨i, rfl, q⟩ := h
  obtain ⟨t, rfl⟩ := rx
  exact rule i t s _ _ ⟨.int (g i), H, I.tok _, ⟨_, rfl⟩, q⟩
theorem un_neg : UnR X (unaryOp .USub) (rU fun i => .int (-i)) := unI fun _ _ _ _ _ q => neg_int q
end
def scal : V → V → Bool
  | .non, .non => true | .non, .int _ => true | .int _, .non => true | .non, .bl _ => true | .bl _, .non => true | .non, .str _ => true | .str _, .non => true
  | .int _, .int _ => true | .bl _, .bl _ => true | .str _, .str _ => true | .byt _, .byt _ => true
  | .int _, .str _ => true | .str _, .int _ => true | .bl _, .str _ => true | .str _, .bl _ => true
  | _, _ => false
def rEq : R2 := fun x y H Q => scal x y = true ∧ Q (.bl (decide (x = y))) H
def rNe : R2 := fun x y H Q => scal x y = true ∧ Q (.bl (!decide (x = y))) H
theorem dec_int {i j : Int} : decide (V.int i = V.int j) = (i == j) := by
  rw [Bool.eq_iff_iff]
  simp
theorem dec_bl {i j : Bool} : decide (V.bl i = V.bl j) = (i == j) := by
  rw [Bool.eq_iff_iff]
  simp
theorem dec_str {i j : Str} : decide (V.str i = V.str j) = (i == j) := by
  rw [Bool.eq_iff_iff]
  simp
theorem dec_byt {i j : Array UInt8} : decide (V.byt i = V.byt j) = (i.toList == j.toList) := by
  rw [Bool.eq_iff_iff]
  cases i
  cases j
  simp
section
variable {X : Cx} {a b c : Expr} {ta tb tc : TE} {pos : Pos}
theorem fin_bl {pins : List (Addr × Obj)} {σ : St} {H : Hp} {s : Shared} {Q : VK} {k k' : Bool} (I : Inv X pins σ H s) (q : Q (.bl k) H) (e : k = k') : EP X pins σ Q (.bool k') s := by
  subst e
  exact ⟨.bl k, H, I, rfl, q⟩
theorem op_eq : OpR X (compareOp .Eq) rEq := by
  intro pins s σ H x y v u Q I rx ry h
  obtain ⟨hs, q⟩ := h
  cases x with
  | non =>
    cases rx
    cases y with
    | non => cases ry; exact PySem.EqNone.eq_none_none (fin_bl I q (by simp))
    | bl j => cases ry; exact PySem.EqNone.eq_none_bool (fin_bl I q (by simp))
    | int j => obtain ⟨t', rfl⟩ := ry; exact PySem.EqNone.eq_none_int (fin_bl I q (by simp))
    | str j => obtain ⟨t', rfl⟩ := ry; exact PySem.EqNone.eq_none_str (fin_bl I q (by simp))
    | _ => exact absurd (show false = true from hs) Bool.false_ne_true
  | bl i =>
    cases rx
    cases y with
    | non => cases ry; exact PySem.EqNone.eq_bool_none (fin_bl I q (by simp))
    | bl j => cases ry; exact eq_bool (fin_bl I q dec_bl)
    | str j => obtain ⟨t', rfl⟩ := ry; exact PySem.EqMixed.eq_bool_str (fin_bl I q (by simp))
    | _ => exact absurd (show false = true from hs) Bool.false_ne_true
  | int i =>
    obtain ⟨t, rfl⟩ := rx
    cases y with
    | non => cases ry; exact PySem.EqNone.eq_int_none (fin_bl I q (by simp))
    | int j => obtain ⟨t', rfl⟩ := ry; exact eq_int (fin_bl I q dec_int)
    | str j => obtain ⟨t', rfl⟩ := ry; exact PySem.EqMixed.eq_int_str (fin_bl I q (by simp))
    | _ => exact absurd (show false = true from hs) Bool.false_ne_true
  | str i =>
    obtain ⟨t, rfl⟩ := rx
    cases y with
    | non => cases ry; exact PySem.EqNone.eq_str_none (fin_bl I q (by simp))
    | bl j => cases ry; exact PySem.EqMixed.eq_str_bool (fin_bl I q (by simp))
    | int j => obtain ⟨t', rfl⟩ := ry; exact PySem.EqMixed.eq_str_int (fin_bl I q (by simp))
    | str j => obtain ⟨t', rfl⟩ := ry; exact eq_str (fin_bl I q dec_str)
    | _ => exact absurd (show false = true from hs) Bool.false_ne_true
  | byt i =>
    obtain ⟨t, rfl⟩ := rx
    cases y with
    | byt j => obtain ⟨t', rfl⟩ := ry; exact PySem.W.eq_bytes (fin_bl I q dec_byt)
    | _ => exact absurd (show false = true from hs) Bool.false_ne_true
  | _ => cases y <;> exact absurd (show false = true from hs) Bool.false_ne_true
theorem op_ne : OpR X (compareOp .NotEq) rNe := by
  intro pins s σ H x y v u Q I rx ry h
  obtain ⟨hs, q⟩ := h
  cases x with
  | non =>
    cases rx
    cases y with
    | non => cases ry; exact PySem.EqNone.ne_none_none (fin_bl I q (by simp))
    | bl j => cases ry; exact PySem.EqNone.ne_none_bool (fin_bl I q (by simp))
    | int j => obtain ⟨t', rfl⟩ := ry; exact PySem.EqNone.ne_none_int (fin_bl I q (by simp))
    | str j => obtain ⟨t', rfl⟩ := ry; exact PySem.EqNone.ne_none_str (fin_bl I q (by simp))
    | _ => exact absurd (show false = true from hs) Bool.false_ne_true
  | bl i =>
    cases rx
    cases y with
    | non => cases ry; exact PySem.EqNone.ne_bool_none (fin_bl I q (by simp))
    | bl j => cases ry; exact ne_bool (fin_bl I q (congrArg not dec_bl))
    | str j => obtain ⟨t', rfl⟩ := ry; exact PySem.EqMixed.ne_bool_str (fin_bl I q (by simp))
    | _ => exact absurd (show false = true from hs) Bool.false_ne_true
  | int i =>
    obtain ⟨t, rfl⟩ := rx
    cases y with
    | non => cases ry; exact PySem.EqNone.ne_int_none (fin_bl I q (by simp))
    | int j => obtain ⟨t', rfl⟩ := ry; exact ne_int (fin_bl I q (congrArg not dec_int))
    | str j => obtain ⟨t', rfl⟩ := ry; exact PySem.EqMixed.ne_int_str (fin_bl I q (by simp))
    | _ => exact absurd (show false = true from hs) Bool.false_ne_true
  | str i =>
    obtain ⟨t, rfl⟩ := rx
    cases y with
    | non => cases ry; exact PySem.EqNone.ne_str_none (fin_bl I q (by simp))
    | bl j => cases ry; exact PySem.EqMixed.ne_str_bool (fin_bl I q (by simp))
    | int j => obtain ⟨t', rfl⟩ := ry; exact PySem.EqMixed.ne_str_int (fin_bl I q (by simp))
    | str j => obtain ⟨t', rfl⟩ := ry; exact ne_str (fin_bl I q (congrArg not dec_str))
    | _ => exact absurd (show false = true from hs) Bool.false_ne_true
  | byt i =>
    obtain ⟨t, rfl⟩ := rx
    cases y with
    | byt j => obtain ⟨t', rfl⟩ := ry; exact PySem.W.ne_bytes (fin_bl I q (congrArg not dec_byt))
    | _ => exact absurd (show false = true from hs) Bool.false_ne_true
  | _ => cases y <;> exact absurd (show false = true from hs) Bool.false_ne_true
theorem op_lt : OpR X (compareOp .Lt) (rI0 fun i j => .bl (decide (i < j))) := opB0 fun _ _ _ _ _ _ _ q => lt_int q
theorem op_le : OpR X (compareOp .LtE) (rI0 fun i j => .bl (decide (i ≤ j))) := opB0 fun _ _ _ _ _ _ _ q => le_int q
theorem op_gt : OpR X (compareOp .Gt) (rI0 fun i j => .bl (decide (j < i))) := opB0 fun _ _ _ _ _ _ _ q => gt_int q
theorem op_ge : OpR X (compareOp .GtE) (rI0 fun i j => .bl (decide (j ≤ i))) := opB0 fun _ _ _ _ _ _ _ q => ge_int q
theorem nomark (b : Expr) {op : CmpOp} (h : op ≠ .In := by decide) (h2 : op ≠ .NotIn := by decide) : behindInMarks op b = false := by
  have e1 : (op == CmpOp.In) = false := by cases op <;> first | rfl | exact absurd rfl h
  have e2 : (op == CmpOp.NotIn) = false := by cases op <;> first | rfl | exact absurd rfl h2
  cases b <;> simp [behindInMarks, e1, e2]
theorem pe_cmpR {op : CmpOp} {r : R2} (ho : OpR X (compareOp op) r) (ha : PE X a ta) (hb : PE X b tb) (hm : behindInMarks op b = false) : PE X (.Compare a [op] [b] pos) (tOp r ta tb) := by
  intro pins s σ H Q I h
  exact wpAny_Compare1 (binT ha hb I h fun v u s2 x y H2 I2 rx ry q => ho pins s2 σ H2 x y v u Q I2 rx ry q) hm
def tTest (t : TE) : TT := fun σ H Q => t σ H fun x H' => ∃ k, x = .bl k ∧ Q k H'
theorem pt_cmpR {op : CmpOp} {r : R2} (ho : OpR X (compareOp op) r) (ha : PE X a ta) (hb : PE X b tb) (hm : behindInMarks op b = false) : PT X (.Compare a [op] [b] pos) (tTest (tOp r ta tb)) := by
  intro pins s σ H Q I h
  refine wpAny_isTrue_Compare1 (thn (ha pins s σ H _ I h) fun v s1 ⟨x, H1, I1, r1, q1⟩ => thn (hb pins s1 σ H1 _ I1 q1) fun u s2 ⟨y, H2, I2, r2, q2⟩ =>
    thn (ho pins s2 σ H2 x y v u _ I2 r1 r2 q2) fun c s3 ⟨z, H3, I3, r3, k, e, q3⟩ => ?_) hm
  subst e
  cases r3
  exact wpAny_truthy_bool ⟨H3, I3, q3⟩
def tChain (r r' : R2) (ta tb tc : TE) : TE := fun σ H Q => ta σ H fun x H1 => tb σ H1 fun y H2 => r x y H2 fun z H3 => ∃ k, z = .bl k ∧
  (if k = true then tc σ H3 fun w' H4 => r' y w' H4 Q else Q (.bl false) H3)
theorem pt_chain {op op' : CmpOp} {r r' : R2} (ho : OpR X (compareOp op) r) (ho' : OpR X (compareOp op') r') (ha : PE X a ta) (hb : PE X b tb) (hc : PE X c tc)
    (hm : lastMarks [op, op'] [b, c] = false := by with_unfolding_all rfl) : PT X (.Compare a [op, op'] [b, c] pos) (tTest (tChain r r' ta tb tc)) := by
  intro pins s σ H Q I h
  refine isTrue_chain (thn (ha pins s σ H _ I h) fun v s1 ⟨x, H1, I1, r1, q1⟩ => test_link (thn (hb pins s1 σ H1 _ I1 q1) fun u s2 ⟨y, H2, I2, r2, q2⟩ =>
    thn (ho pins s2 σ H2 x y v u _ I2 r1 r2 q2) fun d s3 ⟨z, H3, I3, r3, k, e, q3⟩ => ?_)) hm
  subst e
  cases r3
  refine wpAny_truthy_bool ?_
  cases k with
  | false =>
    obtain ⟨k', e', q'⟩ := q3
    cases e'
    exact ite_ff ⟨H3, I3, q'⟩
  | true =>
    refine ite_tt (test_last (thn (hc pins s3 σ H3 _ I3 q3) fun w' s4 ⟨z', H4, I4, r4, q4⟩ => thn (ho' pins s4 σ H4 y z' u w' _ I4 r2 r4 q4) fun d' s5 ⟨z2, H5, I5, r5, k2, e2, q5⟩ => ?_))
    subst e2
    cases r5
    exact wpAny_truthy_bool ⟨H5, I5, q5⟩
theorem line63 : (sizeLine : Nat) < 2 ^ 63 := by rw [sizeLine_eq]; decide
theorem vals1 {x : V} {us : List Value} (r : Vals [x] us) : ∃ u, us = [u] ∧ RelV x u := by
  cases r with
  | cons r1 r2 => cases r2; exact ⟨_, rfl, r1⟩
theorem vals2 {x y : V} {us : List Value} (r : Vals [x, y] us) : ∃ u w', us = [u, w'] ∧ RelV x u ∧ RelV y w' := by
  cases r with
  | cons r1 r2 =>
    cases r2 with
    | cons r3 r4 => cases r4; exact ⟨_, _, rfl, r1, r3⟩
theorem call_abs : CallR X (.builtin "abs") (fun xs H Q => ∃ i, xs = [.int i] ∧ Q (.int (if i < 0 then -i else i)) H) := by
  intro pins s σ H xs us Q I r h
  obtain ⟨i, rfl, q⟩ := h
  obtain ⟨u, rfl, t, rfl⟩ := vals1 r
  exact call_abs_int fun u tk => ⟨.int (if i < 0 then -i else i), H, I.tok _, ⟨_, rfl⟩, q⟩
theorem call_int1 : CallR X (.type "int") (fun xs H Q => (∃ i, xs = [.int i] ∧ Q (.int i) H) ∨ ∃ k, xs = [.bl k] ∧ Q (.int (if k then 1 else 0)) H) := by
  intro pins s σ H xs us Q I r h
  rcases h with ⟨i, rfl, q⟩ | ⟨k, rfl, q⟩
  · obtain ⟨u, rfl, t, rfl⟩ := vals1 r
    exact call_int_int ⟨.int i, H, I, ⟨_, rfl⟩, q⟩
  · obtain ⟨u, rfl, r1⟩ := vals1 r
    cases r1
    exact call_int_bool ⟨.int (if k then 1 else 0), H, I.tok _, ⟨_, rfl⟩, q⟩
end
end L2
namespace L2
open PySem PySem.Spec PyProof.Rows
structure ObjM (h : Heap) (x dx C : Addr) (mA : Str → Option Value) : Prop where
  obj : h.get? x = some (PySem.W.instObj C dx)
  ns : h.Ns1 dx mA
  ne : dx ≠ x
theorem lookIn_ns {h : Heap} {dx : Addr} {mA : Str → Option Value} (n : h.Ns1 dx mA) : ∃ od, h.get? dx = some od ∧ ∀ name, PySem.W.lookIn name od = some (mA name) := by
  obtain ⟨o, es, ep, ho, hd, hk, _, hm⟩ := n
  refine ⟨o, ho, fun name => ?_⟩
  have e := hm name
  unfold nsFind findBy at e
  rw [← Array.find?_toList] at e
  unfold PySem.W.lookIn
  rw [hd]
  dsimp only
  split
  · rename_i y q
    rw [q] at e
    exact congrArg some e
  · rename_i q
    rw [q] at e
    have a : es.toList.any (·.refKey) = false := by
      rw [List.any_eq_false]
      intro y hy
      obtain ⟨z, t, hkey⟩ := hk y (Array.mem_toList_iff.mp hy)
      simp [DictEntry.refKey, hkey]
    have a' : ¬ es.toList.any (·.refKey) = true := by rw [a]; exact Bool.false_ne_true
    rw [if_neg a']
    exact congrArg some e
theorem ObjM.look {h : Heap} {x dx C : Addr} {mA : Str → Option Value} (I : ObjM h x dx C mA) : ∃ od, PySem.W.InstAt h x (PySem.W.instObj C dx) C (some od) ∧ ∀ name, PySem.W.lookIn name od = some (mA name) :=
  let ⟨od, ho, hl⟩ := lookIn_ns I.ns
  ⟨od, ⟨I.obj, rfl, rfl, ho⟩, hl⟩
section
variable {prog : Program} {w : World} {A : Around} {E : Value → Shared → Prop} {s : Shared} {K : PySem.W.Frag} {x dx C f : Addr} {mA : Str → Option Value} {name : Str} {v : Value}
end
section
variable {P : Program} {w : World} {H H' : Hp} {h h' : Heap} {a C dx : Addr} {fs fs' : List (Str × V)}
theorem ins_get (hok : HOk P w H h) (e : H a = some (.ins C dx fs)) : ∃ mA, ObjM h a dx C mA ∧ (∀ f, RelO (fs.lookup f) (mA f)) ∧ PySem.Within mA (fs.map (·.1)) ∧ fs.length ≤ 1000 ∧ H dx = some (.own a) := by
  obtain ⟨d, z, ne, ob, mA, n, r, q⟩ := (show ObjOk P w H h a (.ins C dx fs) from hok a _ e)
  exact ⟨mA, ⟨ob, n, ne⟩, r, q, z, d⟩
end
structure Cls (K : PySem.W.Frag) (C : Addr) : Prop where
  pg : PySem.W.plainGet K C Str.empty = true
  hd : PySem.W.hasDictIn K C = true
  po : PySem.W.plainOver K C = true
  sa : PySem.W.findIn K (.ref C) "__setattr__" = some (some (.builtin "object.__setattr__"))
theorem Cls.get {K : PySem.W.Frag} {C : Addr} (c : Cls K C) (f : Str) : PySem.W.plainGet K C f = true := c.pg
section
variable {X : Cx} {pins : List (Addr × Obj)} {σ : St} {H : Hp} {s : Shared} {a C dx : Addr} {fs : List (Str × V)} {f : Str} {v : V} {A : Around} {E : Value → Shared → Prop}
end
section
variable {X : Cx} {o e value : Expr} {f : Str} {pos pos' tpos : Pos} {ta tv : TE}
end
section
variable {X : Cx} {pins : List (Addr × Obj)} {σ : St} {H : Hp} {s : Shared} {A : Around} {E : Value → Shared → Prop} {Q : Value → Shared → Prop} {c : Value} {b : Bool}
inductive TyOf (K : PySem.W.Frag) (H : Hp) : V → Value → Prop where
  | non : TyOf K H .non (.type "NoneType")
  | bl (x : Bool) : TyOf K H (.bl x) (.type "bool")
  | int (i : Int) : TyOf K H (.int i) (.type "int")
  | str (x : Str) : TyOf K H (.str x) (.type "str")
  | flt (x : UInt64) : TyOf K H (.flt x) (.type "float")
  | lst {a : Addr} {xs : List V} (e : H a = some (.lst xs)) : TyOf K H (.ref a) (.type "list")
  | frz {a : Addr} {o : Obj} {xs : List V} (e : H a = some (.frz o (.lst xs))) : TyOf K H (.ref a) (.type "list")
  | tup {a : Addr} {xs : List V} (e : H a = some (.tup xs)) : TyOf K H (.ref a) (.type "tuple")
  | dK {a : Addr} {kvs : List (Key × V)} (e : H a = some (.dK kvs)) : TyOf K H (.ref a) (.type "dict")
  | dT {a : Addr} {kvs : List (List Key × V)} (e : H a = some (.dT kvs)) : TyOf K H (.ref a) (.type "dict")
  | ins {a C dx : Addr} {fs : List (Str × V)} (e : H a = some (.ins C dx fs)) (cl : Cls K C) (ha : PySem.W.findIn K (.ref C) "__class__" = some (some (.builtin "object.__class__")))
      (hn : PySem.W.specialIn K (.builtin "object.__class__") "__get__" = some (some (.builtin "getset_descriptor.__get__"))) (htk : PySem.W.takesIn K (.builtin "object.__class__") = some true)
      (hm : PySem.W.mroIn K C (.type "object") = some true) : TyOf K H (.ref a) (.ref C)
theorem isinst_ok {x : V} {u t : Value} (I : Inv X pins σ H s) (rx : RelV x u) (ty : TyOf X.K H x t) (e : PySem.W.kitOne X.K t c = some b) (h : ∀ tk, Q (.bool b) { s with toks := tk }) :
    wpAny (model X.prog X.w) A (call (.builtin "isinstance") [u, c]) Q E s := by
  cases ty with
  | non => cases (show u = Value.none from rx); exact PySem.W.kia_one PySem.W.kitx_none I.kIn True.intro e (fun z => nomatch z) h
  | bl y => cases (show u = Value.bool y from rx); exact PySem.W.kia_one PySem.W.kitx_bool I.kIn True.intro e (fun z => nomatch z) h
  | int i => obtain ⟨t, q⟩ := (show ∃ t, u = Value.int i t from rx); cases q; exact PySem.W.kia_one PySem.W.kitx_int I.kIn True.intro e (fun z => nomatch z) h
  | str y => obtain ⟨t, q⟩ := (show ∃ t, u = Value.str y t from rx); cases q; exact PySem.W.kia_one PySem.W.kitx_str I.kIn True.intro e (fun z => nomatch z) h
  | flt y => obtain ⟨t, q⟩ := (show ∃ t, u = Value.float y t from rx); cases q; exact PySem.W.kia_one PySem.W.kitx_float I.kIn True.intro e (fun z => nomatch z) h
  | @lst a xs ea =>
    cases (show u = Value.ref a from rx)
    obtain ⟨_, _, n, _, h1⟩ := (show ObjOk X.prog X.w H s.heap a (.lst xs) from I.hok a _ ea)
    exact PySem.W.kia_one PySem.W.kitx_list I.kIn ⟨_, h1, rfl⟩ e (fun z => nomatch z) h
  | @frz a ob xs ea =>
    cases (show u = Value.ref a from rx)
    obtain ⟨_, _, _, n, _, h1⟩ := (show ObjOk X.prog X.w H s.heap a (.frz ob (.lst xs)) from I.hok a _ ea)
    exact PySem.W.kia_one PySem.W.kitx_list I.kIn ⟨_, h1, rfl⟩ e (fun z => nomatch z) h
  | @tup a xs ea =>
    cases (show u = Value.ref a from rx)
    obtain ⟨_, _, _, p⟩ := (show ObjOk X.prog X.w H s.heap a (.tup xs) from I.hok a _ ea)
    obtain ⟨o, h1, h2, _⟩ := p
    exact PySem.W.kia_one PySem.W.kitx_tuple I.kIn ⟨o, h1, h2⟩ e (fun z => nomatch z) h
  | @dK a kvs ea =>
    cases (show u = Value.ref a from rx)
    obtain ⟨_, _, vs, _, p⟩ := (show ObjOk X.prog X.w H s.heap a (.dK kvs) from I.hok a _ ea)
    obtain ⟨o, es, ep, h1, h2, _⟩ := p
    exact PySem.W.kia_one PySem.W.kitx_dict I.kIn ⟨o, h1, h2.1⟩ e (fun z => nomatch z) h
  | @dT a kvs ea =>
    cases (show u = Value.ref a from rx)
    obtain ⟨_, _, xs, _, o, es, ep, h1, h2, _⟩ := (show ObjOk X.prog X.w H s.heap a (.dT kvs) from I.hok a _ ea)
    exact PySem.W.kia_one PySem.W.kitx_dict I.kIn ⟨o, h1, h2.1⟩ e (fun z => nomatch z) h
  | @ins a C dx fs ea cl ha hn htk hm =>
    cases (show u = Value.ref a from rx)
    obtain ⟨mA, O, _⟩ := ins_get I.hok ea
    obtain ⟨od, J, _⟩ := O.look
    exact PySem.W.kia_one (PySem.W.kitx_own (cl.get _) cl.hd ha hn htk hm) I.kIn J e (fun z => nomatch z) h
end
end L2
namespace L2
open PySem PySem.Spec PyProof.Rows
structure Room (k : Nat) (A : Around) : Prop where
  hd : A.handled = none
  dp : A.depth + 3 * k + 5 < recursionLimit
  un : A.units + 16 * k + 200 < cLine
theorem Room.mono {j k : Nat} {A : Around} (r : Room k A) (h : j ≤ k) : Room j A := ⟨r.hd, by have := r.dp; omega, by have := r.un; omega⟩
theorem Room.deeper {k : Nat} {A : Around} (r : Room (k + 1) A) (env : Env) : Room k (A.deeper env) :=
  ⟨r.hd, by have := r.dp; show A.depth + 1 + 3 * k + 5 < _; omega, by have := r.un; show A.units + 3 + 16 * k + 200 < _; omega⟩
theorem Room.depth {k : Nat} {A : Around} (r : Room k A) : A.depth < recursionLimit := by have := r.dp; omega
theorem Room.units {k : Nat} {A : Around} (r : Room k A) : A.units + 64 < cLine := by have := r.un; omega
def tNil : TA := fun _ H Q => Q [] H
def tCons (ta : TE) (tr : TA) : TA := fun σ H Q => ta σ H fun x H1 => tr σ H1 fun xs H2 => Q (x :: xs) H2
section
variable {X : Cx} {e : Expr} {es : List Expr} {te : TE} {t : TA} {pos : Pos}
theorem pa_nil : PA X [] tNil := fun _ _ _ _ H Q I h => Calls.spliced_nil ⟨[], H, I, .nil, h⟩
theorem pa_cons (ha : PE X e te) (hr : PA X es t) (hs : starEach (e :: es) X.env = (false, eval e X.env) :: starEach es X.env := by rfl) : PA X (e :: es) (tCons te t) := by
  intro pos pins s σ H Q I h
  rw [hs]
  show wpAny _ _ (spliced ((false, eval e X.env) :: backTo pos (starEach es X.env))) _ _ s
  refine Calls.spliced_cons (thn (ha pins s σ H _ I h) fun u s1 ⟨x, H1, I1, r1, q1⟩ => ?_)
  exact thn (hr pos pins s1 σ H1 _ I1 q1) fun us s2 ⟨xs, H2, I2, r2, q2⟩ => ⟨x :: xs, H2, I2, .cons r1 r2, q2⟩
def tTup (t : TA) : TE := fun σ H Q => t σ H fun xs H1 => xs.length ≤ sizeLine ∧ ∀ p, H1 p = none → Q (.ref p) (upd H1 p (.tup xs))
def tLst (t : TA) : TE := fun σ H Q => t σ H fun xs H1 => xs.length ≤ sizeLine ∧ ∀ p, H1 p = none → Q (.ref p) (upd H1 p (.lst xs))
theorem pe_tup {x1} (h : PA X es t) : PE X (.Tuple es x1 pos) (tTup t) := by
  intro pins s σ H Q I hq
  refine wpAny_Tuple_spliced (thn (h pos pins s σ H _ I hq) fun us s1 ⟨xs, H1, I1, r, z, q⟩ => ⟨by rw [← r.length]; exact z, ?_⟩)
  have hf : H1 s1.heap.objs.size = none := I1.hok.fresh (Nat.le_refl _)
  refine ⟨.ref s1.heap.objs.size, upd H1 s1.heap.objs.size (.tup xs), I1.laid (t' := s1.toks) (fun b u e => Heap.get?_push_of_some _ e) (Nat.le_refl _) ?_, rfl, q _ hf⟩
  exact ⟨z, us, r, ⟨_, Heap.get?_push_size _ rfl, rfl, _, rfl⟩⟩
theorem pe_lst (h : PA X es t) : PE X (.List es pos) (tLst t) := by
  intro pins s σ H Q I hq
  refine wpAny_List_spliced (thn (h pos pins s σ H _ I hq) fun us s1 ⟨xs, H1, I1, r, z, q⟩ => ⟨by rw [← r.length]; exact z, ?_⟩)
  have hf : H1 s1.heap.objs.size = none := I1.hok.fresh (Nat.le_refl _)
  refine ⟨.ref s1.heap.objs.size, upd H1 s1.heap.objs.size (.lst xs), I1.laid (t' := s1.toks) (fun b u e => Heap.get?_push_of_some _ e) (Nat.le_refl _) ?_, rfl, q _ hf⟩
  exact ⟨z, us, 0, r, Heap.get?_push_size _ rfl⟩
end
abbrev Sp := List V → Hp → VK → XK → Prop
abbrev CXT := List Env → Hp → Shared → XK → Value → Shared → Prop
structure Env0 (P : Program) (w : World) (K : PySem.W.Frag) (mg : Str → Option Value) (base : Heap) (A : Around) (outer : List Env) (s : Shared) (H : Hp) : Prop where
  frames : A.frames = some outer
  mod : Mod K mg base
  bs : ∀ b o, base.get? b = some o → s.heap.get? b = some o ∧ H b = none
  bsz : base.objs.size ≤ s.heap.objs.size
  funs : s.heap.FunFrames base outer
  frf : ∀ b ∈ frs outer, H b = none
  hok : HOk P w H s.heap
  bare : AllBare s.gens
def CE (outer : List Env) (P : Program) (w : World) (H : Hp) (s : Shared) (Q : VK) (u : Value) (s' : Shared) : Prop :=
  ∃ v H', s'.os = s.os ∧ AllBare s'.gens ∧ Un (frs outer) [] H H' s.heap s'.heap ∧ HOk P w H' s'.heap ∧ RelV v u ∧ Q v H'
def CR (CX : CXT) (outer : List Env) (P : Program) (w : World) (H : Hp) (s : Shared) (Q : VK) (E : XK) (r : Result) (s' : Shared) : Prop :=
  match r with
  | .ok (.ret u) => CE outer P w H s Q u s'
  | .ok _ => False
  | .error e => CX outer H s E e s'
structure FnOk (P : Program) (w : World) (K : PySem.W.Frag) (mg : Str → Option Value) (base : Heap) (CX : CXT) (k : Nat) (f : Addr) (fd : FuncData) (ps : List Str) (sp : Sp) : Prop where
  len : ∀ vs H Q E, sp vs H Q E → vs.length = ps.length
  run : ∀ (A : Around) (outer : List Env) (s : Shared) (H : Hp) (args : Args) (us : List Value) (vs : List V) (Q : VK) (E : XK), Room k A → Env0 P w K mg base A outer s H → BindsTo s fd args (ps.zip us) → Vals vs us → sp vs H Q E →
    codeAny (model P w) A (.call (.ref f) args) (CR CX outer P w H s Q E) s
theorem FnOk.mono {P : Program} {w : World} {K : PySem.W.Frag} {mg : Str → Option Value} {base : Heap} {CX : CXT} {j k : Nat} {f : Addr} {fd : FuncData} {ps : List Str} {sp : Sp} (F : FnOk P w K mg base CX j f fd ps sp) (h : j ≤ k) :
    FnOk P w K mg base CX k f fd ps sp := ⟨F.len, fun A outer s H args us vs Q E hr => F.run A outer s H args us vs Q E (hr.mono h)⟩
section
variable {X : Cx} {pins : List (Addr × Obj)} {σ : St} {H : Hp} {s s' : Shared}
theorem Inv.env0 (I : Inv X pins σ H s) : Env0 X.prog X.w X.K X.mg X.base X.A X.stack s H :=
  ⟨I.ok.frames, I.ok.mod, I.bs, Nat.le_trans I.ok.bsz I.sz, I.stack, I.stkFree, I.hok, I.bare⟩
theorem Inv.after {Q : VK} {u : Value} (I : Inv X pins σ H s) (h : CE X.stack X.prog X.w H s Q u s') : EP X pins σ Q u s' := by
  obtain ⟨v, H', os, bare, un, hok, r, q⟩ := h
  obtain ⟨hh, g, d, t, os'⟩ := s'
  obtain rfl : os' = s.os := os
  exact ⟨v, H', I.call (h' := hh) (g' := g) (d' := d) (t' := t) (ch := []) un hok bare (fun b z => absurd z (by simp)), r, q⟩
end
def tCall (sp : Sp) (dvs : List V) (E : XK) (t : TA) : TE := fun σ H Q => t σ H fun vs H1 => sp (vs ++ dvs) H1 Q E
def Binds (K : PySem.W.Frag) (fd : FuncData) (ps : List Str) (ds : List Value) : Prop :=
  ∀ (s : Shared) (us : List Value), K.In s.heap → (us ++ ds).length = ps.length → BindsTo s fd ⟨us, []⟩ (ps.zip (us ++ ds))
theorem Binds.all {K : PySem.W.Frag} {fd : FuncData} {ps : List Str} (h : ∀ us : List Value, us.length = ps.length → bindArgs fd ⟨us, []⟩ = pure (ps.zip us)) : Binds K fd ps [] := fun s us _ hl => by
  rw [List.append_nil] at hl ⊢
  exact .of_eq (h us hl)
def Passes (CX : CXT) (X : Cx) (E : XK) : Prop := ∀ (pins : List (Addr × Obj)) (σ : St) (H : Hp) (s : Shared) (e : Value) (s' : Shared), Inv X pins σ H s → CX X.stack H s E e s' → X.xe e s'
section
variable {X : Cx} {CX : CXT} {k : Nat} {f C : Addr} {fd : FuncData} {ps : List Str} {sp : Sp} {dvs : List V} {ds : List Value} {E : XK} {x m : Str} {p pos apos : Pos} {e o : Expr} {es : List Expr} {ta : TE} {t : TA}
theorem run_fn {pins : List (Addr × Obj)} {σ : St} {H : Hp} {s : Shared} {Q : VK} {us : List Value} {vs : List V} (F : FnOk X.prog X.w X.K X.mg X.base CX k f fd ps sp) (hr : Room k X.A) (hb : Binds X.K fd ps ds) (hd : Vals dvs ds) (hx : Passes CX X E)
    (I : Inv X pins σ H s) (r : Vals vs us) (h : sp (vs ++ dvs) H Q E) : wpAny (model X.prog X.w) X.A (call (.ref f) us) (EP X pins σ Q) X.xe s := by
  have r2 : Vals (vs ++ dvs) (us ++ ds) := r.append hd
  have hl : (us ++ ds).length = ps.length := by rw [← r2.length]; exact F.len _ _ _ _ h
  refine wpAny_call (codeAny_mono (F.run X.A X.stack s H ⟨us, []⟩ (us ++ ds) (vs ++ dvs) Q E hr I.env0 (hb s us I.kIn hl) r2 h) fun r s' hq => ?_)
  cases r with
  | error e => exact hx pins σ H s e s' I hq
  | ok fl =>
    cases fl with
    | ret u => exact I.after hq
    | next => exact False.elim hq
    | brk => exact False.elim hq
    | cont => exact False.elim hq
theorem pe_call (F : FnOk X.prog X.w X.K X.mg X.base CX k f fd ps sp) (hr : Room k X.A) (hg : Gl X x) (hm : X.mg x = some (.ref f)) (hk : PySem.W.keepIn X.K (.ref f) = true) (hb : Binds X.K fd ps ds) (hd : Vals dvs ds) (hx : Passes CX X E)
    (ha : PA X (e :: es) t) (hdb : (x == ("__debug__" : Str)) = false := by decide) (he : starEach (e :: es) X.env = (false, eval e X.env) :: starEach es X.env := by rfl) (hpl : (backTo pos (starEach es X.env)).any (·.1) = false := by rfl) :
    PE X (.Call (.Name x p) (e :: es) [] pos) (tCall sp dvs E t) := by
  intro pins s σ H Q I h
  refine wpAny_Call_Name_kw (ld_glob I hg hm ?_ hdb)
  refine PySem.W.callWith_K (h₀ := X.base) I.ok.mod.kin hk (thn (ha pos pins s σ H _ I h) fun us s1 ⟨vs, H1, I1, r, q⟩ => ⟨I1.kIn, ?_⟩) he hpl
  exact run_fn F hr hb hd hx I1 r q
end
section
variable {X : Cx} {CX : CXT} {k : Nat} {f C : Addr} {fd : FuncData} {ps ks : List Str} {sp : Sp} {E : XK} {x m : Str} {p pos apos kpos : Pos} {e o : Expr} {es : List Expr} {kws : List Keyword} {te ta : TE} {t tk : TA} {nm : Option Str}
variable {g : List Value → List Value → List Value} {gV : List V → List V → List V}
end
structure FnScope (N P : List Str) (sc : Scope) : Prop where
  kind : sc.kind = .function
  co : sc.isCoroutine = false
  gen : sc.isGenerator = false
  nd : N.Nodup
  pre : N.take P.length = P
  par : ∀ x ∈ P, sc.names.lookup x = some .local ∨ sc.names.lookup x = some .cell
  nofree : ∀ y ∈ sc.names, y.2 ≠ .free
theorem bindL_out {kindOf : Str → Option NameKind} {x : Str} : ∀ {binds : List (Str × Value)} {m : Str → Option Value}, (∀ v, (x, v) ∉ binds) → bindL kindOf binds m x = m x
  | [], _, _ => rfl
  | (n, v) :: r, m, h => by
    unfold bindL
    rw [bindL_out fun w hw => h w (List.mem_cons_of_mem _ hw)]
    split
    · have : x ≠ n := by rintro rfl; exact h v List.mem_cons_self
      simp [this]
    · rfl
theorem bindC_out {kindOf : Str → Option NameKind} {x : Str} : ∀ {binds : List (Str × Value)} {m : Str → Option Value}, (∀ v, (x, v) ∉ binds) → bindC kindOf binds m x = m x
  | [], _, _ => rfl
  | (n, v) :: r, m, h => by
    unfold bindC
    rw [bindC_out fun w hw => h w (List.mem_cons_of_mem _ hw)]
    split
    · rfl
    · have : x ≠ n := by rintro rfl; exact h v List.mem_cons_self
      simp [this]
theorem bindL_get {kindOf : Str → Option NameKind} {x : Str} {v : Value} : ∀ {P : List Str} {vs : List Value} {i : Nat} {m : Str → Option Value}, P.Nodup → P[i]? = some x → vs[i]? = some v → kindOf x = some .local →
    bindL kindOf (P.zip vs) m x = some v
  | [], _, _, _, _, h, _, _ => by simp at h
  | _ :: _, [], _, _, _, _, h, _ => by simp at h
  | p :: P, w :: vs, 0, m, nd, h1, h2, hk => by
    simp at h1 h2; subst h1; subst h2
    show bindL kindOf ((p, w) :: P.zip vs) m p = _
    unfold bindL
    rw [bindL_out fun v hv => (List.nodup_cons.mp nd).1 (List.of_mem_zip hv).1, if_pos hk]
    simp
  | p :: P, w :: vs, i + 1, m, nd, h1, h2, hk => by
    show bindL kindOf ((p, w) :: P.zip vs) m x = _
    unfold bindL
    exact bindL_get (i := i) (List.nodup_cons.mp nd).2 (by simpa using h1) (by simpa using h2) hk
theorem bindC_get {kindOf : Str → Option NameKind} {x : Str} {v : Value} : ∀ {P : List Str} {vs : List Value} {i : Nat} {m : Str → Option Value}, P.Nodup → P[i]? = some x → vs[i]? = some v → kindOf x ≠ some .local →
    bindC kindOf (P.zip vs) m x = some v
  | [], _, _, _, _, h, _, _ => by simp at h
  | _ :: _, [], _, _, _, _, h, _ => by simp at h
  | p :: P, w :: vs, 0, m, nd, h1, h2, hk => by
    simp at h1 h2; subst h1; subst h2
    show bindC kindOf ((p, w) :: P.zip vs) m p = _
    unfold bindC
    rw [bindC_out fun v hv => (List.nodup_cons.mp nd).1 (List.of_mem_zip hv).1, if_neg hk]
    simp
  | p :: P, w :: vs, i + 1, m, nd, h1, h2, hk => by
    show bindC kindOf ((p, w) :: P.zip vs) m x = _
    unfold bindC
    exact bindC_get (i := i) (List.nodup_cons.mp nd).2 (by simpa using h1) (by simpa using h2) hk
def start (N : List Str) (vs : List V) : St := vs.map some ++ List.replicate (N.length - vs.length) none
def cxOf (CX : CXT) (P : Program) (w : World) (K : PySem.W.Frag) (mg : Str → Option Value) (base : Heap) (N : List Str) (qual : Str) (scope : Scope) (f : Addr) (cd : Value) (A : Around) (outer : List Env) (s : Shared) (H : Hp) (E : XK) : Cx where
  prog := P
  w := w
  K := K
  mg := mg
  base := base
  A := A.deeper (envOfC qual scope s.heap.objs.size f cd)
  N := N
  s₀ := s
  H₀ := H
  env := envOfC qual scope s.heap.objs.size f cd
  outer := outer
  stack := envOfC qual scope s.heap.objs.size f cd :: outer
  ex := []
  calm := true
  fn := fun _ => true
  pn := []
  xe := fun e s' => wpAny (model P w) (A.deeper (envOfC qual scope s.heap.objs.size f cd)) (leaving (envOfC qual scope s.heap.objs.size f cd) e) (fun _ s'' => CX outer H s E e s'') (fun e' s'' => CX outer H s E e' s'') s'
theorem cell_has {sc : Scope} {n : Nat} {x : Str} (h : sc.names.lookup x = some .cell) : ∃ c, (cellsFrom n sc.names []).lookup x = some c := by
  have q := PySem.W.cellsFrom_some sc.names n [] (.inl h)
  exact Option.isSome_iff_exists.mp q
theorem inv_start {CX : CXT} {P : Program} {w : World} {K : PySem.W.Frag} {mg : Str → Option Value} {base : Heap} {N ps : List Str} {qual : Str} {scope : Scope} {f : Addr} {cd : Value} {A : Around} {outer : List Env} {s s1 : Shared} {H : Hp} {E : XK} {us : List Value} {vs : List V}
    (S : FnScope N ps scope) (hd : A.handled = none) (e0 : Env0 P w K mg base A outer s H) (hl : vs.length = ps.length) (r : Vals vs us)
    (x : InCallC s s.heap.objs.size (bindL (envOfC qual scope s.heap.objs.size f cd).kindOf (ps.zip us) fun _ => none) (cellsFrom (s.heap.objs.size + 1) scope.names []) (bindC (envOfC qual scope s.heap.objs.size f cd).kindOf (ps.zip us) fun _ => none) s1) :
    Inv (cxOf CX P w K mg base N qual scope f cd A outer s H E) [] (start N vs) H s1 := by
  have hpl : ps.length ≤ N.length := by have := congrArg List.length S.pre; rw [List.length_take] at this; omega
  obtain ⟨h1, tk, rfl, hk⟩ := x.done
  have noA : ∀ b : Addr, b ∉ (cxOf CX P w K mg base N qual scope f cd A outer s H E).ex := fun b z => absurd (show b ∈ ([] : List Addr) from z) (by simp)
  refine ⟨⟨e0.mod, S.kind, rfl, rfl, Nat.le_refl _, fun y z c h1 h2 => ?_, fun y hy => ?_, fun y c _ h => ?_, fun _ => hd, Around.frames_deeper e0.frames, .inr ⟨rfl, rfl⟩, fun b z => absurd z (noA b), e0.bs, e0.bsz, fun b _ _ => noA b, fun b z => absurd z (noA b), e0.funs, e0.frf⟩,
    rfl, e0.bare, Un.kept hk, ⟨_, x.toInCall.ns, fun i y v h1 h2 h3 => ?_⟩, fun y c h => ⟨_, x.cell y c h⟩, e0.hok.fresh (Nat.le_refl _), fun y c h => ?_, fun p hp => absurd (show p ∈ ([] : List (Addr × Obj)) from hp) (by simp), e0.hok.kept hk, ?_⟩
  · exact name_of_addr x.apart (PySem.mem_of_lookup h1) (PySem.mem_of_lookup h2)
  · have hy : scope.names.lookup y = some .cell ∨ scope.names.lookup y = some .free := hy
    rcases hy with hy | hy
    · exact cell_has hy
    · exact absurd rfl (S.nofree _ (PySem.mem_of_lookup hy))
  · exact Nat.le_of_lt (x.above y c (PySem.mem_of_lookup h))
  · have hi : i < vs.length := by
      unfold start at h2
      by_cases hi : i < vs.length
      · exact hi
      · rw [List.getElem?_append_right (by simpa using hi)] at h2
        rw [List.getElem?_replicate] at h2
        split at h2 <;> cases h2
    have ha : vs[i]? = some v := by
      unfold start at h2
      rw [List.getElem?_append_left (by simpa using hi), List.getElem?_map] at h2
      cases e : vs[i]? with
      | none => rw [e] at h2; cases h2
      | some a => rw [e] at h2; cases h2; rfl
    obtain ⟨u, hu, rv⟩ := r.get ha
    have hp : ps[i]? = some y := by
      rw [← S.pre, List.getElem?_take_of_lt (by omega)]; exact h1
    have ndP : ps.Nodup := by rw [← S.pre]; exact S.nd.sublist (List.take_sublist _ _)
    refine ⟨u, rv, ?_⟩
    rcases S.par y (List.mem_of_getElem? hp) with k | k
    · exact .inl ⟨k, bindL_get ndP hp hu k⟩
    · obtain ⟨c, e⟩ := cell_has (n := s.heap.objs.size + 1) k
      refine .inr ⟨.inl k, c, e, ?_⟩
      have q := x.cell y c e
      rw [bindC_get ndP hp hu (by show scope.names.lookup y ≠ _; rw [k]; decide)] at q
      exact q
  · exact e0.hok.fresh (Nat.le_of_lt (x.above y c (PySem.mem_of_lookup h)))
  · unfold start
    show _ = N.length
    rw [List.length_append, List.length_map, List.length_replicate]
    omega
theorem fn_of {CX : CXT} {P : Program} {w : World} {K : PySem.W.Frag} {mg : Str → Option Value} {base : Heap} {k : Nat} {f : Addr} {name qual : Str} {params : Arguments} {body : List Stmt} {scope : Scope} {dV kV doc pm cdv ct oc : Value} {an od : Option Addr}
    {osl : Array (Option Value)} {N ps : List Str} {sp : Sp} (lk : K.lookup f = some ⟨oc, od, .func (PySem.W.fnOf name qual params body scope dV kV doc pm an cdv ct), osl⟩) (hcd : PySem.W.codeIn K cdv qual = true) (S : FnScope N ps scope)
    (len : ∀ vs H Q E, sp vs H Q E → vs.length = ps.length)
    (hbody : ∀ (A : Around) (outer : List Env) (s : Shared) (H : Hp) (vs : List V) (Q : VK) (E : XK), Room k (A.deeper (envOfC qual scope s.heap.objs.size f cdv)) → sp vs H Q E →
      ∃ t, PSs (cxOf CX P w K mg base N qual scope f cdv A outer s H E) body t ∧ t { nx := fun _ H' => Q .non H', rt := Q } (start N vs) H) :
    FnOk P w K mg base CX (k + 1) f (PySem.W.fnOf name qual params body scope dV kV doc pm an cdv ct) ps sp := by
  refine ⟨len, fun A outer s H args us vs Q E hr e0 hb r hsp => ?_⟩
  have hl := len _ _ _ _ hsp
  have KX : K.In s.heap := e0.mod.kin.keeps fun b o e => (e0.bs b o e).1
  have lim : s.heap.NoLimit := e0.mod.nolimit.keeps fun b o e => (e0.bs b o e).1
  have hkind : ∀ y ∈ ps.zip us, scope.names.lookup y.1 = some .local ∨ (scope.names.lookup y.1 = some .cell ∧ ((cellsFrom (s.heap.objs.size + 1) scope.names []).lookup y.1).isSome = true) := fun ⟨n, v⟩ hy => by
    rcases S.par n (List.of_mem_zip hy).1 with q | q
    · exact .inl q
    · exact .inr ⟨q, PySem.W.cellsFrom_some _ _ _ (.inl q)⟩
  refine codeAny_call_function hr.depth (KX _ _ lk) rfl S.co S.gen rfl (PySem.W.codeRec_of KX hcd) (hb _ _ _ _ ?_)
  refine wpAny_newFunctionEnv_cells S.kind hkind fun env he s1 x => ?_
  subst he
  refine ⟨lim.keeps x.toInCall.keep, codeAny_func ?_⟩
  obtain ⟨t, ht, hq⟩ := hbody A outer s H vs Q E (hr.deeper _) hsp
  have I : Inv (cxOf CX P w K mg base N qual scope f cdv A outer s H E) [] (start N vs) H s1 := inv_start S hr.hd e0 hl r x
  refine wpAny_mono (ht [] s1 (start N vs) H _ I hq) (fun fl s' hs => ?_) fun e s' hs => hs
  have fin : ∀ {σ' : St} {H' : Hp} {v : V} {u : Value}, Inv (cxOf CX P w K mg base N qual scope f cdv A outer s H E) [] σ' H' s' → RelV v u → Q v H' → CE outer P w H s Q u s' :=
    fun {σ' H' v u} J rv q => ⟨v, H', J.os, J.bare, J.base, J.hok, rv, q⟩
  cases fl with
  | ret u =>
    obtain ⟨v, σ', H', J, rv, q⟩ := hs
    exact fin J rv q
  | next =>
    obtain ⟨σ', H', J, q⟩ := hs
    exact fin (v := V.non) (u := Value.none) J rfl q
  | brk =>
    obtain ⟨_, _, _, q⟩ := hs
    exact False.elim q
  | cont =>
    obtain ⟨_, _, _, q⟩ := hs
    exact False.elim q
end L2
namespace L2
open PySem PySem.Spec PyProof.Rows
section
variable {X : Cx} {x : Str} {p pos : Pos} {e : Expr} {es : List Expr} {t : TA} {id T : String} {r : List V → Hp → VK → Prop}
def tCB (r : List V → Hp → VK → Prop) (t : TA) : TE := fun σ H Q => t σ H fun vs H1 => r vs H1 Q
theorem pe_callB (hc : CallR X (.builtin id) r) (hg : Gl X x) (hm : X.mg x = none) (hv : bootBuiltins x = some (.builtin id)) (ha : PA X (e :: es) t) (hn : x ≠ "__name__" := by decide) (hdb : (x == ("__debug__" : Str)) = false := by decide)
    (he : starEach (e :: es) X.env = (false, eval e X.env) :: starEach es X.env := by rfl) (hpl : (backTo pos (starEach es X.env)).any (·.1) = false := by rfl) : PE X (.Call (.Name x p) (e :: es) [] pos) (tCB r t) := by
  intro pins s σ H Q I h
  refine wpAny_Call_Name_kw (ld_blt I hg hm hv ?_ hn hdb)
  exact PyProof.Rows.callWith_builtin1 (thn (ha pos pins s σ H _ I h) fun us s1 ⟨vs, H1, I1, r1, q1⟩ => hc pins s1 σ H1 vs us Q I1 r1 q1) he hpl
theorem pe_callTy (hc : CallR X (.type T) r) (hg : Gl X x) (hm : X.mg x = none) (hv : bootBuiltins x = some (.type T)) (ha : PA X (e :: es) t) (hn : x ≠ "__name__" := by decide) (hdb : (x == ("__debug__" : Str)) = false := by decide)
    (he : starEach (e :: es) X.env = (false, eval e X.env) :: starEach es X.env := by rfl) (hpl : (backTo pos (starEach es X.env)).any (·.1) = false := by rfl) : PE X (.Call (.Name x p) (e :: es) [] pos) (tCB r t) := by
  intro pins s σ H Q I h
  refine wpAny_Call_Name_kw (ld_blt I hg hm hv ?_ hn hdb)
  exact PyProof.Rows.callWith_type1 (thn (ha pos pins s σ H _ I h) fun us s1 ⟨vs, H1, I1, r1, q1⟩ => hc pins s1 σ H1 vs us Q I1 r1 q1) he hpl
end
end L2
namespace HT
open PySem PyProof.Rows
section
open PySem.SeqAt
open PySem.AutoSeq1 (wpAny_loadPart')
open PySem.MeetsSeq PySem.MeetsSeq2 PySem.MeetsSeq3
end
section
variable {prog : Program} {w : World} {A : Around} {E : Value → Shared → Prop} {s : Shared}
def sIx (n d : Nat) : Option Int → Nat
  | none => d
  | some v => if v < 0 then (v + (n : Int)).toNat else min v.toNat n
theorem sIx_none (n d : Nat) : sIx n d none = d := rfl
theorem sIx_nat (n d k : Nat) : sIx n d (some (k : Int)) = min k n := by
  show (if (k : Int) < 0 then ((k : Int) + (n : Int)).toNat else min (k : Int).toNat n) = min k n
  rw [if_neg (by omega), Int.toNat_natCast]
end
end HT
namespace L2
open PySem PySem.Spec PyProof.Rows
abbrev TO := St → Hp → (Option Int → Hp → Prop) → Prop
def PO (X : Cx) (e : Option Expr) (t : TO) : Prop :=
  ∀ (pins : List (Addr × Obj)) (s : Shared) (σ : St) (H : Hp) (Q : Option Int → Hp → Prop), Inv X pins σ H s → t σ H Q →
    wpAny (model X.prog X.w) X.A (evalPart e X.env) (fun u s' => ∃ o H', Inv X pins σ H' s' ∧ IsPart u o ∧ Q o H') X.xe s
def tNoPart : TO := fun _ H Q => Q none H
def tPart (t : TE) : TO := fun σ H Q => t σ H fun x H1 => ∃ i, x = .int i ∧ Q (some i) H1
section
variable {X : Cx} {e : Expr} {te : TE} {lo hi : Option Expr} {tl th : TO} {pos p2 : Pos}
theorem po_none : PO X none tNoPart := by
  intro pins s σ H Q I h
  rw [evalPart_none]
  exact wpAny_pure ⟨none, H, I, .none, h⟩
theorem po_some (h : PE X e te) : PO X (some e) (tPart te) := by
  intro pins s σ H Q I hw
  rw [evalPart_some]
  refine thn (h pins s σ H _ I hw) fun u s1 ⟨x, H1, I1, r1, q1⟩ => ?_
  obtain ⟨i, rfl, q⟩ := q1
  obtain ⟨t, rfl⟩ := r1
  exact ⟨some i, H1, I1, .int i t, q⟩
def SlR (X : Cx) (r : V → Option Int → Option Int → Hp → VK → Prop) : Prop :=
  ∀ (pins : List (Addr × Obj)) (s : Shared) (σ : St) (H : Hp) (x : V) (v vl vu : Value) (lo hi : Option Int) (sl : Addr) (Q : VK), Inv X pins σ H s → RelV x v → s.heap.IsSliceOf sl vl vu .none → IsPart vl lo → IsPart vu hi → r x lo hi H Q →
    ∃ T id, typeLookup (.type T) "__getitem__" = pure (some (.builtin id)) ∧ s.TypeIs v T ∧ wpAny (model X.prog X.w) X.A (getItem v (.ref sl)) (EP X pins σ Q) X.xe s
def tSl (r : V → Option Int → Option Int → Hp → VK → Prop) (te : TE) (tl th : TO) : TE := fun σ H Q => te σ H fun x H1 => tl σ H1 fun l H2 => th σ H2 fun u H3 => r x l u H3 Q
theorem pe_slice {r : V → Option Int → Option Int → Hp → VK → Prop} (hr : SlR X r) (he : PE X e te) (hl : PO X lo tl) (hu : PO X hi th) : PE X (.Subscript e (.Slice lo hi none p2) pos) (tSl r te tl th) := by
  intro pins s σ H Q I h
  refine Subscript_ (thn (he pins s σ H _ I h) fun v s1 ⟨x, H1, I1, r1, q1⟩ => ?_)
  refine wpAny_Slice (thn (hl pins s1 σ H1 _ I1 q1) fun vl s2 ⟨l, H2, I2, pl, q2⟩ => thn (hu pins s2 σ H2 _ I2 q2) fun vu s3 ⟨u, H3, I3, pu, q3⟩ => ?_)
  rw [evalPart_none]
  refine wpAny_pure ?_
  have I4 : Inv X pins σ H3 { s3 with heap := s3.heap.push { cls := .type "slice", data := .fields #[vl, vu, .none] } } := I3.kept (t' := s3.toks) fun b ob q => Heap.get?_push_of_some _ q
  obtain ⟨T, id, hT, ht, hg⟩ := hr pins { s3 with heap := s3.heap.push { cls := .type "slice", data := .fields #[vl, vu, .none] } } σ H3 x v vl vu l u s3.heap.objs.size Q I4 r1 (Heap.IsSliceOf.new ..) pl pu q3
  show wpAny (model X.prog X.w) X.A (subscriptTail e (.Slice lo hi none p2) v (.ref s3.heap.objs.size)) (EP X pins σ Q) X.xe { s3 with heap := s3.heap.push { cls := .type "slice", data := .fields #[vl, vu, .none] } }
  exact tail_any (ops := [.ref s3.heap.objs.size, v]) ht hT hg (by with_unfolding_all rfl)
def cutV (xs : List V) (lo hi : Option Int) : List V := (xs.drop (HT.sIx xs.length 0 lo)).take (HT.sIx xs.length xs.length hi - HT.sIx xs.length 0 lo)
theorem cutV_length (xs : List V) (lo hi : Option Int) : (cutV xs lo hi).length ≤ xs.length := by
  unfold cutV
  rw [List.length_take, List.length_drop]
  omega
end
end L2
namespace L2
open PySem PySem.Spec PyProof.Rows
def ixN (n : Nat) (i : Int) : Option Nat := if 0 ≤ i then (if i < n then some i.toNat else none) else if -(n : Int) ≤ i then some (i + n).toNat else none
def atI {α : Type} (xs : List α) (i : Int) : Option α := (ixN xs.length i).bind fun j => xs[j]?
theorem ixN_seq {n : Nat} {i : Int} {j : Nat} (h : ixN n i = some j) : seqIndex? i n = some j ∧ j < n ∧ -(n : Int) ≤ i ∧ i < n := by
  unfold ixN at h
  by_cases h0 : 0 ≤ i
  · rw [if_pos h0] at h
    by_cases h1 : i < n
    · rw [if_pos h1] at h
      have e : i.toNat = j := Option.some.inj h
      exact ⟨by rw [seqIndex_of h0 h1, e], by omega, by omega, h1⟩
    · rw [if_neg h1] at h; cases h
  · rw [if_neg h0] at h
    by_cases h1 : -(n : Int) ≤ i
    · rw [if_pos h1] at h
      have e : (i + n).toNat = j := Option.some.inj h
      exact ⟨by rw [seqIndex_neg (by omega) h1, e], by omega, h1, by omega⟩
    · rw [if_neg h1] at h; cases h
theorem atI_get {α : Type} {xs : List α} {i : Int} {v : α} (h : atI xs i = some v) : ∃ j, seqIndex? i xs.length = some j ∧ xs[j]? = some v ∧ j < xs.length ∧ -(xs.length : Int) ≤ i ∧ i < xs.length := by
  unfold atI at h
  cases e : ixN xs.length i with
  | none => rw [e] at h; cases h
  | some j =>
    rw [e] at h
    obtain ⟨h1, h2, h3, h4⟩ := ixN_seq e
    exact ⟨j, h1, h, h2, h3, h4⟩
theorem atI_nat {α : Type} {xs : List α} {j : Nat} {v : α} (h : xs[j]? = some v) : atI xs (j : Int) = some v := by
  have hj : j < xs.length := (List.getElem?_eq_some_iff.mp h).1
  have e : ixN xs.length (j : Int) = some j := by
    unfold ixN
    rw [if_pos (by omega), if_pos (by omega)]; simp
  unfold atI; rw [e]; exact h
theorem atI_last {α : Type} (xs : List α) (v : α) : atI (xs ++ [v]) (-1) = some v := by
  have hl : (xs ++ [v]).length = xs.length + 1 := by simp
  have e : ixN (xs ++ [v]).length (-1) = some xs.length := by
    unfold ixN
    rw [hl, if_neg (by decide), if_pos (by omega)]
    congr 1
    omega
  unfold atI
  rw [e]
  show (xs ++ [v])[xs.length]? = some v
  simp
def PlainIx (b : Expr) : Prop := ∀ o i, subscripted b false o i = operate [o, i] (getItem o i)
def IxR (X : Cx) (r : R2) : Prop :=
  ∀ (value slice : Expr) (pins : List (Addr × Obj)) (s : Shared) (σ : St) (H : Hp) (x y : V) (v u : Value) (Q : VK), Inv X pins σ H s → RelV x v → RelV y u → r x y H Q →
    subscripted slice false v u = operate [v, u] (getItem v u) → wpAny (model X.prog X.w) X.A (subscriptTail value slice v u) (EP X pins σ Q) X.xe s
def MtR (X : Cx) (id : String) (r : V → List V → Hp → VK → Prop) : Prop :=
  ∀ (pins : List (Addr × Obj)) (s : Shared) (σ : St) (H : Hp) (x : V) (xs : List V) (v : Value) (us : List Value) (Q : VK), Inv X pins σ H s → RelV x v → Vals xs us → r x xs H Q →
    wpAny (model X.prog X.w) X.A (call (.builtin id) (v :: us)) (EP X pins σ Q) X.xe s
section
variable {X : Cx} {a b : Expr} {ta tb : TE} {pos : Pos}
theorem pe_ix {r : R2} (hr : IxR X r) (ha : PE X a ta) (hb : PE X b tb) (hs : PlainIx b) : PE X (.Subscript a b pos) (tOp r ta tb) := by
  intro pins s σ H Q I h
  exact Subscript_ (binT ha hb I h fun v u s2 x y H2 I2 rx ry q => hr a b pins s2 σ H2 x y v u Q I2 rx ry q (hs _ _))
def rIxL (K : PySem.W.Frag) : R2 := fun x y H Q => ∃ p xs i v, x = .ref p ∧ y = .int i ∧ SqL K H p xs ∧ atI xs i = some v ∧ Q v H
def rIxT (K : PySem.W.Frag) : R2 := fun x y H Q => ∃ p xs i v, x = .ref p ∧ y = .int i ∧ SqT K H p xs ∧ atI xs i = some v ∧ Q v H
theorem ix_list : IxR X (rIxL X.K) := by
  intro value slice pins s σ H x y v u Q I rx ry h hs
  obtain ⟨p, xs, i, z, rfl, rfl, hq, he, q⟩ := h
  cases rx
  obtain ⟨t, rfl⟩ := ry
  obtain ⟨its, r, pl, hz⟩ := I.list hq
  obtain ⟨j, h1, h2, h3, h4, h5⟩ := atI_get he
  obtain ⟨w, ew, rw'⟩ := r.get h2
  have hl := r.length
  have hn := line63
  have fin : EP X pins σ Q w s := ⟨z, H, I, rw', q⟩
  by_cases h0 : 0 ≤ i
  · have hj : i.toNat = j := by
      rw [seqIndex_of h0 h5] at h1
      exact Option.some.inj h1
    exact item_listR pl.isList h0 (by omega) (by rw [hj]; simpa using ew) fin hs
  · have hj : (i + (its.toArray.size : Int)).toNat = j := by
      rw [seqIndex_neg (by omega) h4] at h1
      rw [List.size_toArray, ← hl]
      exact Option.some.inj h1
    exact subscriptTail_builtinR (x := w) pl.isList.typeIs slot_list_getitem.lookup
      (wpAny_getItem_list_neg (Q := fun r s' => r = w ∧ EP X pins σ Q r s') pl.isList (by omega) (by rw [List.size_toArray] <;> omega) (by omega) (by rw [hj]; simpa using ew) ⟨rfl, fin⟩) hs
theorem ix_tup : IxR X (rIxT X.K) := by
  intro value slice pins s σ H x y v u Q I rx ry h hs
  obtain ⟨p, xs, i, z, rfl, rfl, hq, he, q⟩ := h
  cases rx
  obtain ⟨t, rfl⟩ := ry
  obtain ⟨its, r, pl, hz⟩ := I.tuple hq
  obtain ⟨j, h1, h2, h3, h4, h5⟩ := atI_get he
  obtain ⟨w, ew, rw'⟩ := r.get h2
  have hl := r.length
  have hn := line63
  have fin : EP X pins σ Q w s := ⟨z, H, I, rw', q⟩
  exact subscriptTail_builtinR (x := w) pl.typeIs slot_tuple_getitem.lookup
    (getItem_tuple (j := j) (Q := fun r s' => r = w ∧ EP X pins σ Q r s') pl (by omega) (by omega) (by rw [List.size_toArray, ← hl]; exact h1) (by simpa using ew) ⟨rfl, fin⟩) hs
theorem mapSeq_set (its : List Value) (n j : Nat) (u : Value) : Obj.mapSeq (·.setIfInBounds j u) { cls := .type "list", data := .seq its.toArray n } = { cls := .type "list", data := .seq (its.set j u).toArray n } := by
  simp [Obj.mapSeq]
theorem Inv.lst {pins : List (Addr × Obj)} {σ : St} {H : Hp} {s : Shared} {p : Addr} {xs : List V} (I : Inv X pins σ H s) (h : H p = some (.lst xs)) :
    ∃ (its : List Value) (n : Nat), Vals xs its ∧ s.heap.get? p = some { cls := .type "list", data := .seq its.toArray n } ∧ xs.length ≤ sizeLine := by
  obtain ⟨z, its, n, r, e⟩ := I.hok p _ h
  exact ⟨its, n, r, e, z⟩
theorem Inv.lstUpd {pins : List (Addr × Obj)} {σ : St} {H : Hp} {s : Shared} {p : Addr} {xs ys : List V} {its its' : List Value} {n n' : Nat} {f : Obj → Obj} (I : Inv X pins σ H s) (h : H p = some (.lst xs))
    (ho : s.heap.get? p = some { cls := .type "list", data := .seq its.toArray n }) (hf : f { cls := .type "list", data := .seq its.toArray n } = { cls := .type "list", data := .seq its'.toArray n' }) (r : Vals ys its') (hz : ys.length ≤ sizeLine) (t : Nat) :
    Inv X pins σ (upd H p (.lst ys)) { s with heap := s.heap.update p f, toks := t } := by
  have e : (s.heap.update p f).get? p = some { cls := .type "list", data := .seq its'.toArray n' } := by
    rw [Heap.get?_update_self f ho (by rw [hf] <;> rfl), hf]
  refine I.write (x := p) (e := p) (by rw [h]; trivial) (.inl rfl) (fun b u hb q => (Heap.get?_update_other _ _ (Ne.symm hb)).trans q) ⟨_, e⟩ ?_
  exact ⟨hz, its', n', r, e⟩
def rSetL : V → V → V → Hp → (Hp → Prop) → Prop := fun o i v H Q => ∃ p xs k j, o = .ref p ∧ i = .int k ∧ H p = some (.lst xs) ∧ ixN xs.length k = some j ∧ Q (upd H p (.lst (xs.set j v)))
theorem set_list : PSet X rSetL := by
  intro pins s σ H o i v ov iv u Q I ro ri rv h
  obtain ⟨p, xs, k, j, rfl, rfl, hp, hj, q⟩ := h
  cases ro
  obtain ⟨t, rfl⟩ := ri
  obtain ⟨its, n, r, ho, hz⟩ := I.lst hp
  obtain ⟨h1, h2, h3, h4⟩ := ixN_seq hj
  have hl := r.length
  have hn := line63
  have I' : Inv X pins σ (upd H p (.lst (xs.set j v))) { s with heap := s.heap.update p (Obj.mapSeq (·.setIfInBounds j u)) } :=
    I.lstUpd hp ho (mapSeq_set its n j u) (r.set rv j) (by rw [List.length_set]; exact hz) s.toks
  by_cases h0 : 0 ≤ k
  · have hk : k.toNat = j := by
      rw [seqIndex_of h0 h4] at h1
      exact Option.some.inj h1
    exact PySem.W.ki_setAt ho h0 (by omega) (by rw [List.size_toArray, ← hl]; exact h4) (by rw [hk]; exact ⟨_, I', q⟩)
  · have hk : (k + (its.toArray.size : Int)).toNat = j := by
      rw [seqIndex_neg (by omega) h3] at h1
      rw [List.size_toArray, ← hl]
      exact Option.some.inj h1
    exact PySem.W.ki_setBack ho (by omega) (by rw [List.size_toArray, ← hl]; exact h3) (by omega) (by rw [hk]; exact ⟨_, I', q⟩)
theorem slice_bounds (lo hi : Option Int) (n : Nat) : (sliceBounds lo hi none n).1 = ((HT.sIx n 0 lo : Nat) : Int) ∧ (sliceBounds lo hi none n).2.1 = ((HT.sIx n n hi : Nat) : Int) ∧ (sliceBounds lo hi none n).2.2 = 1 := by
  refine ⟨?_, ?_, rfl⟩
  · cases lo with
    | none => simp [sliceBounds, HT.sIx]
    | some i =>
      simp only [sliceBounds, HT.sIx, Option.getD_none, show (1 : Int) > 0 by decide, if_true]
      by_cases h : i < 0
      · simp only [h, if_true] <;> omega
      · simp only [h, if_false] <;> omega
  · cases hi with
    | none => simp [sliceBounds, HT.sIx]
    | some i =>
      simp only [sliceBounds, HT.sIx, Option.getD_none, show (1 : Int) > 0 by decide, if_true]
      by_cases h : i < 0
      · simp only [h, if_true] <;> omega
      · simp only [h, if_false] <;> omega
theorem slicePick_cut (its : List Value) (lo hi : Option Int) : slicePick its.toArray lo hi none = ((its.drop (HT.sIx its.length 0 lo)).take (HT.sIx its.length its.length hi - HT.sIx its.length 0 lo)).toArray := by
  obtain ⟨h1, h2, h3⟩ := slice_bounds lo hi its.toArray.size
  unfold slicePick
  rw [h1, h2, h3]
  simp only [sliceRange_one, pick_run, List.size_toArray] <;> rfl
def rSlL (K : PySem.W.Frag) : V → Option Int → Option Int → Hp → VK → Prop := fun x lo hi H Q => ∃ a xs, x = .ref a ∧ SqL K H a xs ∧ ∀ p, H p = none → Q (.ref p) (upd H p (.lst (cutV xs lo hi)))
theorem sl_list : SlR X (rSlL X.K) := by
  intro pins s σ H x v vl vu lo hi sl Q I rx hs pl pu h
  obtain ⟨a, xs, rfl, hx, q⟩ := h
  cases rx
  obtain ⟨its, r, ht, hz⟩ := I.list hx
  have hlen := r.length
  refine ⟨"list", _, slot_list_getitem.lookup, ht.isList.typeIs, ?_⟩
  refine wpAny_getItem_list_slice ht.isList hs pl pu .none (by simp) ?_ (by rw [List.size_toArray] <;> omega)
  rw [slicePick_cut, ← hlen]
  refine ⟨.ref s.heap.objs.size, _, I.laid (t' := s.toks) (o := .lst (cutV xs lo hi)) (fun b ob q => Heap.get?_push_of_some _ q) (Nat.le_refl _) ?_, rfl, q _ (I.hok.fresh (Nat.le_refl _))⟩
  exact ⟨Nat.le_trans (cutV_length xs lo hi) hz, _, 0, (r.drop (HT.sIx xs.length 0 lo)).take (HT.sIx xs.length xs.length hi - HT.sIx xs.length 0 lo), Heap.get?_push_size _ rfl⟩
def flatV : V → Bool
  | .non => true
  | .bl _ => true
  | .int _ => true
  | .str _ => true
  | _ => false
def eqV : V → V → Bool
  | .non, .non => true
  | .bl a, .bl b => a == b
  | .bl a, .int b => (if a then 1 else 0) == b
  | .int a, .bl b => a == (if b then 1 else 0)
  | .int a, .int b => a == b
  | .str a, .str b => a == b
  | _, _ => false
theorem eqAt_V {A : Around} {s : Shared} {y x : V} {u v : Value} (ry : RelV y u) (rx : RelV x v) (fy : flatV y = true) (fx : flatV x = true) : SeqAt.EqAt A s u v (eqV y x) := by
  cases y with
  | non =>
    cases ry
    cases x with
    | non => cases rx; exact SeqAt.EqAt.same _
    | bl b => cases rx; exact SeqAt.EqAt.none_bool b
    | int b => obtain ⟨t, rfl⟩ := rx; exact SeqAt.EqAt.none_int b t
    | str b => obtain ⟨t, rfl⟩ := rx; exact SeqAt.EqAt.none_str b t
    | _ => exact absurd (show false = true from fx) Bool.false_ne_true
  | bl a =>
    cases ry
    cases x with
    | non => cases rx; exact SeqAt.EqAt.bool_none a
    | bl b => cases rx; exact SeqAt.EqAt.bool_bool a b
    | int b => obtain ⟨t, rfl⟩ := rx; exact SeqAt.EqAt.bool_int a b t
    | str b => obtain ⟨t, rfl⟩ := rx; exact SeqAt.EqAt.bool_str a b t
    | _ => exact absurd (show false = true from fx) Bool.false_ne_true
  | int a =>
    obtain ⟨t', rfl⟩ := ry
    cases x with
    | non => cases rx; exact SeqAt.EqAt.int_none a t'
    | bl b => cases rx; exact SeqAt.EqAt.int_bool a t' b
    | int b => obtain ⟨t, rfl⟩ := rx; exact SeqAt.EqAt.int_int a t' b t
    | str b => obtain ⟨t, rfl⟩ := rx; exact SeqAt.EqAt.int_str a t' b t
    | _ => exact absurd (show false = true from fx) Bool.false_ne_true
  | str a =>
    obtain ⟨t', rfl⟩ := ry
    cases x with
    | non => cases rx; exact SeqAt.EqAt.str_none a t'
    | bl b => cases rx; exact SeqAt.EqAt.str_bool a t' b
    | int b => obtain ⟨t, rfl⟩ := rx; exact SeqAt.EqAt.str_int a t' b t
    | str b => obtain ⟨t, rfl⟩ := rx; exact SeqAt.EqAt.str_str a t' b t
    | _ => exact absurd (show false = true from fx) Bool.false_ne_true
  | _ => exact absurd (show false = true from fy) Bool.false_ne_true
def eqU (x : V) (u : Value) : Bool := match u with
  | .none => eqV .non x
  | .bool b => eqV (.bl b) x
  | .int i _ => eqV (.int i) x
  | .str z _ => eqV (.str z) x
  | _ => false
theorem eqU_of {x y : V} {u : Value} (r : RelV y u) (f : flatV y = true) : eqU x u = eqV y x := by
  cases y with
  | non => cases r; rfl
  | bl b => cases r; rfl
  | int i => obtain ⟨t, rfl⟩ := r; rfl
  | str z => obtain ⟨t, rfl⟩ := r; rfl
  | _ => exact absurd (show false = true from f) Bool.false_ne_true
theorem any_eqU {x : V} : ∀ {xs : List V} {us : List Value}, Vals xs us → xs.all flatV = true → us.any (eqU x) = xs.any fun y => eqV y x
  | _, _, .nil, _ => rfl
  | y :: xs, u :: us, .cons r t, f => by
    rw [List.all_cons, Bool.and_eq_true] at f
    rw [List.any_cons, List.any_cons, eqU_of r f.1, any_eqU t f.2]
theorem mem_eqAt {A : Around} {s : Shared} {x : V} {v : Value} (rx : RelV x v) (fx : flatV x = true) : ∀ {xs : List V} {us : List Value}, Vals xs us → xs.all flatV = true → ∀ u ∈ us, SeqAt.EqAt A s u v (eqU x u)
  | _, _, .nil, _ => fun u hu => by cases hu
  | y :: xs, u :: us, .cons r t, f => fun u' hu => by
    rw [List.all_cons, Bool.and_eq_true] at f
    rcases List.mem_cons.mp hu with rfl | hu
    · rw [eqU_of r f.1]; exact eqAt_V r rx f.1 fx
    · exact mem_eqAt rx fx t f.2 u' hu
def inV (x : V) (xs : List V) : Bool := xs.any fun y => eqV y x
def rIn (K : PySem.W.Frag) (neg : Bool) : R2 := fun x y H Q => ∃ p xs, y = .ref p ∧ (SqL K H p xs ∨ SqT K H p xs) ∧ flatV x = true ∧ xs.all flatV = true ∧ Q (.bl (if neg then !inV x xs else inV x xs)) H
theorem op_in_seq : OpR X (compareOp .In) (rIn X.K false) := by
  intro pins s σ H x y v u Q I rx ry h
  obtain ⟨p, xs, rfl, hq, fx, fs, q⟩ := h
  cases ry
  rcases hq with hq | hq
  · obtain ⟨its, r, pl, hz⟩ := I.list hq
    refine SeqAt.in_listAt (eqU x) pl.isList (fun w hw => mem_eqAt rx fx r fs w (by simpa using hw)) ⟨.bl _, H, I, rfl, ?_⟩
    rw [show its.toArray.any (eqU x) = its.any (eqU x) by simp, any_eqU r fs]
    exact q
  · obtain ⟨its, r, pl, hz⟩ := I.tuple hq
    refine SeqAt.in_tupleAt (eqU x) pl (fun w hw => mem_eqAt rx fx r fs w (by simpa using hw)) ⟨.bl _, H, I, rfl, ?_⟩
    rw [show its.toArray.any (eqU x) = its.any (eqU x) by simp, any_eqU r fs]
    exact q
theorem op_notIn_seq : OpR X (compareOp .NotIn) (rIn X.K true) := by
  intro pins s σ H x y v u Q I rx ry h
  obtain ⟨p, xs, rfl, hq, fx, fs, q⟩ := h
  cases ry
  rcases hq with hq | hq
  · obtain ⟨its, r, pl, hz⟩ := I.list hq
    refine SeqAt.notIn_listAt (eqU x) pl.isList (fun w hw => mem_eqAt rx fx r fs w (by simpa using hw)) ⟨.bl _, H, I, rfl, ?_⟩
    rw [show its.toArray.any (eqU x) = its.any (eqU x) by simp, any_eqU r fs]
    exact q
  · obtain ⟨its, r, pl, hz⟩ := I.tuple hq
    refine SeqAt.notIn_tupleAt (eqU x) pl (fun w hw => mem_eqAt rx fx r fs w (by simpa using hw)) ⟨.bl _, H, I, rfl, ?_⟩
    rw [show its.toArray.any (eqU x) = its.any (eqU x) by simp, any_eqU r fs]
    exact q
theorem call_len_seq : CallR X (.builtin "len") (fun xs H Q => ∃ p ys, xs = [.ref p] ∧ (SqL X.K H p ys ∨ SqT X.K H p ys) ∧ Q (.int ys.length) H) := by
  intro pins s σ H xs us Q I r h
  obtain ⟨p, ys, rfl, hq, q⟩ := h
  obtain ⟨u, rfl, rx⟩ := vals1 r
  cases rx
  have hn := line63
  rcases hq with hq | hq
  · obtain ⟨its, r', pl, hz⟩ := I.list hq
    have hlen := r'.length
    exact Calls.call_len_list pl.isList (by simp only [List.size_toArray] <;> omega) ⟨.int ys.length, H, I.tok _, ⟨s.toks + 1, by rw [List.size_toArray, hlen]⟩, q⟩
  · obtain ⟨its, r', pl, hz⟩ := I.tuple hq
    have hlen := r'.length
    exact len_tuple pl (by simp only [List.size_toArray] <;> omega) ⟨.int ys.length, H, I.tok _, ⟨s.toks + 1, by rw [List.size_toArray, hlen]⟩, q⟩
theorem call_list_of : CallR X (.type "list") (fun xs H Q => ∃ p ys, xs = [.ref p] ∧ (SqL X.K H p ys ∨ SqT X.K H p ys) ∧ ∀ l, H l = none → Q (.ref l) (upd H l (.lst ys))) := by
  intro pins s σ H xs us Q I r h
  obtain ⟨p, ys, rfl, hq, q⟩ := h
  obtain ⟨u, rfl, rx⟩ := vals1 r
  cases rx
  have fin : ∀ (its : List Value), Vals ys its → ys.length ≤ sizeLine → ∀ (h' : Heap) (c' : Nat), (∀ b o', s.heap.get? b = some o' → h'.get? b = some o') →
      h'.get? s.heap.objs.size = some { cls := .type "list", dict := none, data := .seq its.toArray c', slots := #[] } → EP X pins σ Q (.ref s.heap.objs.size) { s with heap := h' } := fun its r' hz h' c' kp e =>
    ⟨.ref s.heap.objs.size, _, I.laid (t' := s.toks) kp (Nat.le_refl _) (show ObjOk X.prog X.w _ h' _ (.lst ys) from ⟨hz, its, c', r', e⟩), rfl, q _ (I.hok.fresh (Nat.le_refl _))⟩
  rcases hq with hq | hq
  · obtain ⟨its, r', pl, hz⟩ := I.list hq
    have hlen := r'.length
    obtain ⟨o, ho, hc, n, hd⟩ := pl.isList
    exact call_list_seq p (.inl rfl) ho hc hd (fun h' c' kp e => fin its r' hz h' c' kp e) (by simp only [List.size_toArray] <;> omega)
  · obtain ⟨its, r', pl, hz⟩ := I.tuple hq
    have hlen := r'.length
    obtain ⟨o, ho, hc, n, hd⟩ := pl
    exact call_list_seq p (.inr rfl) ho hc hd (fun h' c' kp e => fin its r' hz h' c' kp e) (by simp only [List.size_toArray] <;> omega)
def tyV (K : PySem.W.Frag) (T : String) (x : V) (H : Hp) : Prop := match x with
  | .str _ => T = "str"
  | .int _ => T = "int"
  | .ref p => (T = "list" ∧ ∃ xs, SqL K H p xs) ∨ (T = "tuple" ∧ ∃ o, K.lookup p = some o ∧ o.cls = .type "tuple" ∧ o.dict = none) ∨
      (T = "dict" ∧ ((∃ kvs, H p = some (.dK kvs)) ∨ ∃ kvs, H p = some (.dT kvs))) ∨ (T = "set" ∧ ∃ S n, H p = some (.set S n))
  | _ => False
theorem tyV_is {pins : List (Addr × Obj)} {σ : St} {H : Hp} {s : Shared} {T : String} {x : V} {v : Value} (I : Inv X pins σ H s) (r : RelV x v) (ty : tyV X.K T x H) :
    s.TypeIs v T ∧ ∀ a, v = .ref a → ∃ ob, s.heap.get? a = some ob ∧ ob.dict = none := by
  cases x with
  | str z =>
    obtain ⟨t, rfl⟩ := r
    cases (show T = "str" from ty)
    exact ⟨typeIs_str s z t, fun _ e => nomatch e⟩
  | int i =>
    obtain ⟨t, rfl⟩ := r
    cases (show T = "int" from ty)
    exact ⟨typeIs_int s i t, fun _ e => nomatch e⟩
  | ref p =>
    cases r
    rcases ty with ⟨rfl, xs, hq⟩ | ⟨rfl, o, hk, hc, hd⟩ | ⟨rfl, hk⟩ | ⟨rfl, S, n, hk⟩
    · obtain ⟨its, _, pl, _⟩ := I.list hq
      refine ⟨pl.isList.typeIs, fun a e => ?_⟩
      cases e
      obtain ⟨o, n, e, c, hd, _⟩ := pl
      exact ⟨o, e, hd⟩
    · refine ⟨⟨o, I.kIn p o hk, hc⟩, fun a e => ?_⟩
      cases e
      exact ⟨o, I.kIn _ o hk, hd⟩
    · have z : ∃ o, s.heap.get? p = some o ∧ o.ExactDict := by
        rcases hk with ⟨kvs, hk⟩ | ⟨kvs, hk⟩
        · obtain ⟨_, _, _, _, o, _, _, e, ex, _⟩ := I.hok p _ hk
          exact ⟨o, e, ex⟩
        · obtain ⟨_, _, _, _, o, _, _, e, ex, _⟩ := I.hok p _ hk
          exact ⟨o, e, ex⟩
      obtain ⟨o, e, ex⟩ := z
      refine ⟨⟨o, e, ex.1⟩, fun a e2 => ?_⟩
      cases e2
      exact ⟨o, e, ex.2.1⟩
    · obtain ⟨o, _, _, _, e, ex, _⟩ := I.hok p _ hk
      refine ⟨⟨o, e, ex.1⟩, fun a e2 => ?_⟩
      cases e2
      exact ⟨o, e, ex.2.1⟩
  | _ => exact False.elim ty
def tBM0 (K : PySem.W.Frag) (T : String) (r : V → List V → Hp → VK → Prop) (to : TE) : TE := fun σ H Q => to σ H fun x H1 => tyV K T x H1 ∧ r x [] H1 Q
def tBM (K : PySem.W.Frag) (T : String) (r : V → List V → Hp → VK → Prop) (to : TE) (t : TA) : TE := fun σ H Q => to σ H fun x H1 => tyV K T x H1 ∧ t σ H1 fun xs H2 => r x xs H2 Q
variable {o e : Expr} {es : List Expr} {to : TE} {t : TA} {name : Str} {apos cpos : Pos} {T id : String} {r : V → List V → Hp → VK → Prop}
theorem pe_bm0 (pa : PlainAttrs T) (slot : Slot T name id) (hty : typeOf (.builtin id) = pure (.type "method_descriptor")) (hm : MtR X id r) (ho : PE X o to)
    (hbase : attributeBase o name X.env (eval o X.env) = eval o X.env := by rfl) (hline : (apos.endLine == cpos.line) = true := by rfl) : PE X (.Call (.Attribute o name apos) [] [] cpos) (tBM0 X.K T r to) := by
  intro pins s σ H Q I h
  refine wpAny_Call_method0_late hbase hline (thn (ho pins s σ H _ I h) fun v s1 ⟨x, H1, I1, r1, ty, q1⟩ => ?_)
  obtain ⟨h1, h2⟩ := tyV_is I1 r1 ty
  exact ⟨T, id, pa, slot, hty, h1, h2, Calls.callWith_builtin rfl (PySem.evalArgs_none (hm pins s1 σ H1 x [] v [] Q I1 r1 .nil q1))⟩
theorem pe_bm (pa : PlainAttrs T) (slot : Slot T name id) (hty : typeOf (.builtin id) = pure (.type "method_descriptor")) (hm : MtR X id r) (ho : PE X o to) (ha : PA X (e :: es) t)
    (hbase : attributeBase o name X.env (eval o X.env) = eval o X.env := by rfl)
    (hfew : ((backTo cpos (starEach (e :: es) X.env)).all (fun x => !x.1) && (backToKw cpos (keywordEach [] X.env)).all (fun x => x.1.isSome)
      && decide ((e :: es).length + ([] : List Keyword).length + (if ([] : List Keyword).isEmpty then 0 else 1) < 30)) = true := by rfl)
    (hline : (apos.endLine == cpos.line) = true := by rfl) (hs : starEach (e :: es) X.env = (false, eval e X.env) :: starEach es X.env := by rfl) (hplain : (backTo cpos (starEach es X.env)).any (·.1) = false := by rfl) :
    PE X (.Call (.Attribute o name apos) (e :: es) [] cpos) (tBM X.K T r to t) := by
  intro pins s σ H Q I h
  refine wpAny_Call_method_late hbase hfew hline rfl (thn (ho pins s σ H _ I h) fun v s1 ⟨x, H1, I1, r1, ty, q1⟩ => ?_)
  obtain ⟨h1, h2⟩ := tyV_is I1 r1 ty
  refine ⟨T, id, pa, slot, hty, h1, h2, ?_⟩
  have hA := ha cpos pins s1 σ H1 _ I1 q1
  rw [hs] at hA ⊢
  refine Calls.callWith_builtin (by show (false || (backTo cpos (starEach es X.env)).any (·.1)) = false; rw [hplain] <;> rfl) (Calls.evalArgs_plain ?_)
  exact thn hA fun us s2 ⟨vs, H2, I2, r2, q2⟩ => hm pins s2 σ H2 x vs v us Q I2 r1 r2 q2
end
end L2
namespace L2
open PySem PySem.Spec PyProof.Rows
def MtM (X : Cx) (id : String) (r : V → List V → Hp → VK → Prop) : Prop :=
  ∀ (pins : List (Addr × Obj)) (s : Shared) (σ : St) (H : Hp) (x : V) (xs : List V) (v : Value) (us : List Value) (Q : VK), Inv X pins σ H s → RelV x v → Vals xs us → r x xs H Q →
    wpAny (model X.prog X.w) X.A (call (.builtin id) (v :: us)) (EP X pins σ Q) X.xe s
theorem Vals.one : ∀ {x : V} {us : List Value}, Vals [x] us → ∃ u, us = [u] ∧ RelV x u
  | _, _, .cons r .nil => ⟨_, rfl, r⟩
theorem Vals.two : ∀ {x y : V} {us : List Value}, Vals [x, y] us → ∃ u v, us = [u, v] ∧ RelV x u ∧ RelV y v
  | _, _, _, .cons r (.cons q .nil) => ⟨_, _, rfl, r, q⟩
theorem Vals.zero : ∀ {us : List Value}, Vals [] us → us = []
  | _, .nil => rfl
section
variable {X : Cx} {pins : List (Addr × Obj)} {σ : St} {H : Hp} {s : Shared} {l b : Addr} {xs ys zs : List V}
theorem Inv.lset {its its' : List Value} {n : Nat} {f : Array Value → Array Value} {t' : Nat} (I : Inv X pins σ H s) (hH : H l = some (.lst xs))
    (e : s.heap.get? l = some { cls := .type "list", data := .seq its.toArray n }) (hf : f its.toArray = its'.toArray) (hv : Vals ys its') (hz : ys.length ≤ sizeLine) :
    Inv X pins σ (upd H l (.lst ys)) { s with heap := s.heap.update l (Obj.mapSeq f), toks := t' } := by
  have q := PySem.IsL.update e f
  rw [hf] at q
  refine I.write (x := l) (e := l) (by rw [hH]; exact trivial) (.inl rfl) (fun b' u hb hu => (Heap.get?_update_other s.heap (Obj.mapSeq f) (Ne.symm hb)).trans hu) ⟨_, q⟩ ?_
  exact ⟨hz, its', _, hv, q⟩
theorem Inv.lnew {its : List Value} {t' : Nat} (I : Inv X pins σ H s) (hv : Vals ys its) (hz : ys.length ≤ sizeLine) :
    Inv X pins σ (upd H s.heap.objs.size (.lst ys)) { s with heap := s.heap.push { cls := .type "list", data := .seq its.toArray }, toks := t' } :=
  I.laid (fun _ _ q => Heap.get?_push_of_some _ q) (Nat.le_refl _) ⟨hz, its, 0, hv, Heap.get?_push_size _ rfl⟩
theorem Inv.fresh (I : Inv X pins σ H s) : H s.heap.objs.size = none := I.hok.fresh (Nat.le_refl _)
theorem Inv.lstM (I : Inv X pins σ H s) (hH : H l = some (.lst xs)) : xs.length ≤ sizeLine ∧ ∃ (its : List Value) (n : Nat), Vals xs its ∧ xs.length = its.length ∧ s.heap.get? l = some { cls := .type "list", data := .seq its.toArray n } := by
  obtain ⟨z, its, n, r, e⟩ := I.hok l _ hH
  exact ⟨z, its, n, r, r.length, e⟩
end
section
variable {X : Cx}
def rAppend : V → List V → Hp → VK → Prop := fun x vs H Q => ∃ l xs y, x = .ref l ∧ vs = [y] ∧ H l = some (.lst xs) ∧ xs.length < sizeLine ∧ Q .non (upd H l (.lst (xs ++ [y])))
theorem mt_append : MtM X "list.append" rAppend := by
  intro pins s σ H x vs v us Q I rx rv h
  obtain ⟨l, xs, y, rfl, rfl, hH, hz, q⟩ := h
  cases rx
  obtain ⟨u, rfl, ru⟩ := rv.one
  obtain ⟨z, its, n, r, hl, e⟩ := I.lstM hH
  refine call_meets F.slot_list_append ⟨_, e, rfl⟩ F.entry_list_append (F.args_list_append_2 _ _) (PySem.list_append l its.toArray n u (by rw [List.size_toArray]; omega)) ⟨e, ?_⟩
  refine ⟨.non, _, I.lset (its' := its ++ [u]) hH e (by simp) (r.append (.cons ru .nil)) ?_, rfl, q⟩
  rw [List.length_append, List.length_singleton]
  omega
def rExtend : V → List V → Hp → VK → Prop := fun x vs H Q => ∃ l b xs zs, x = .ref l ∧ vs = [.ref b] ∧ H l = some (.lst xs) ∧ H b = some (.lst zs) ∧ xs.length + zs.length ≤ sizeLine ∧ Q .non (upd H l (.lst (xs ++ zs)))
def rPop : V → List V → Hp → VK → Prop := fun x vs H Q => ∃ l xs y, x = .ref l ∧ vs = [] ∧ H l = some (.lst xs) ∧ xs[xs.length - 1]? = some y ∧ Q y (upd H l (.lst xs.dropLast))
def rReverse : V → List V → Hp → VK → Prop := fun x vs H Q => ∃ l xs, x = .ref l ∧ vs = [] ∧ H l = some (.lst xs) ∧ Q .non (upd H l (.lst xs.reverse))
def rClear : V → List V → Hp → VK → Prop := fun x vs H Q => ∃ l xs, x = .ref l ∧ vs = [] ∧ H l = some (.lst xs) ∧ Q .non (upd H l (.lst []))
theorem mt_clear : MtM X "list.clear" rClear := by
  intro pins s σ H x vs v us Q I rx rv h
  obtain ⟨l, xs, rfl, rfl, hH, q⟩ := h
  cases rx
  have hus := rv.zero
  subst hus
  obtain ⟨z, its, n, r, hl, e⟩ := I.lstM hH
  refine call_meets F.slot_list_clear ⟨_, e, rfl⟩ F.entry_list_clear (F.args_list_clear_1 _) (AutoSeq1.list_clear_list_0 l its.toArray n (by rw [List.size_toArray]; omega)) ⟨e, ?_⟩
  exact ⟨.non, _, I.lset (its' := []) (ys := []) hH e rfl .nil (Nat.zero_le _), rfl, q⟩
def rCat : R2 := fun x y H Q => ∃ l b xs zs, x = .ref l ∧ y = .ref b ∧ H l = some (.lst xs) ∧ H b = some (.lst zs) ∧ xs.length + zs.length ≤ sizeLine ∧ ∀ p, H p = none → Q (.ref p) (upd H p (.lst (xs ++ zs)))
theorem op_cat : OpR X (binaryOp .Add) rCat := by
  intro pins s σ H x y v u Q I rx ry h
  obtain ⟨l, b, xs, zs, rfl, rfl, hH, hB, hz, q⟩ := h
  cases rx
  cases ry
  obtain ⟨z, its, n, r, hl, e⟩ := I.lstM hH
  obtain ⟨z2, its2, n2, r2, hl2, e2⟩ := I.lstM hB
  refine PySem.P.add_list e e2 ?_ (by rw [List.size_toArray, List.size_toArray]; omega)
  have ea : its.toArray ++ its2.toArray = (its ++ its2).toArray := by simp
  rw [ea]
  exact ⟨.ref _, _, I.lnew (t' := s.toks) (r.append r2) (by rw [List.length_append]; omega), rfl, q _ I.fresh⟩
end
section
variable {prog : Program} {w : World} {A : Around} {E : Value → Shared → Prop} {s : Shared}
end
section
variable {X : Cx}
end
end L2
namespace L2
open PySem PySem.Spec PyProof.Rows
section
variable {κ : Type} [DecidableEq κ]
def valV (kvs : List (κ × V)) (k : κ) : Option V := (kvs.find? fun kv => decide (kv.1 = k)).map (·.2)
def putK (kvs : List (κ × V)) (k : κ) (v : V) : List (κ × V) :=
  if (kvs.any fun kv => decide (kv.1 = k)) = true then kvs.map (fun kv => if kv.1 = k then (kv.1, v) else kv) else kvs ++ [(k, v)]
theorem valV_nil {k : κ} : valV ([] : List (κ × V)) k = none := rfl
theorem valV_pos {p : κ × V} {r : List (κ × V)} {k : κ} (e : p.1 = k) : valV (p :: r) k = some p.2 := by simp [valV, List.find?_cons, e]
theorem valV_neg {p : κ × V} {r : List (κ × V)} {k : κ} (e : ¬ p.1 = k) : valV (p :: r) k = valV r k := by simp [valV, List.find?_cons, e]
theorem valV_any (k : κ) : ∀ kvs : List (κ × V), (kvs.any fun kv => decide (kv.1 = k)) = (valV kvs k).isSome
  | [] => rfl
  | p :: r => by
    rw [List.any_cons]
    by_cases e : p.1 = k
    · simp only [valV_pos e, decide_eq_true e, Bool.true_or, Option.isSome_some]
    · rw [valV_neg e, decide_eq_false e, Bool.false_or]; exact valV_any k r
theorem length_putK (kvs : List (κ × V)) (k : κ) (v : V) : (putK kvs k v).length ≤ kvs.length + 1 := by
  unfold putK
  split
  · rw [List.length_map]; omega
  · rw [List.length_append, List.length_cons, List.length_nil]; omega
theorem putK_new {kvs : List (κ × V)} {k : κ} (v : V) (h : valV kvs k = none) : putK kvs k v = kvs ++ [(k, v)] := by
  unfold putK
  rw [valV_any, h]
  exact if_neg (by decide)
theorem RelO.isSome_eq {o : Option V} {u : Option Value} (r : RelO o u) : o.isSome = u.isSome := by
  cases o with
  | none => cases u with
    | none => rfl
    | some _ => exact (show False from r).elim
  | some _ => cases u with
    | none => exact (show False from r).elim
    | some _ => rfl
theorem KV.val {kvs : List (κ × V)} {vs : List (κ × Value)} (r : KV kvs vs) (k : κ) : RelO (valV kvs k) (valueAt vs k) := by
  unfold KV at r
  induction r with
  | nil => exact True.intro
  | @cons p q ps qs h t ih =>
    obtain ⟨h1, h2⟩ := h
    by_cases e : p.1 = k
    · have e' : q.1 = k := h1.symm.trans e
      have b : valueAt (q :: qs) k = some q.2 := by simp [valueAt, List.find?_cons, e']
      rw [valV_pos e, b]; exact h2
    · have e' : ¬ q.1 = k := fun z => e (h1.trans z)
      have b : valueAt (q :: qs) k = valueAt qs k := by simp [valueAt, List.find?_cons, e']
      rw [valV_neg e, b]; exact ih
theorem KV.any {kvs : List (κ × V)} {vs : List (κ × Value)} (r : KV kvs vs) (k : κ) : (kvs.any fun kv => decide (kv.1 = k)) = vs.any fun kv => decide (kv.1 = k) := by
  unfold KV at r
  induction r with
  | nil => rfl
  | cons h t ih => rw [List.any_cons, List.any_cons, ih, h.1]
theorem KV.repl {kvs : List (κ × V)} {vs : List (κ × Value)} (r : KV kvs vs) (k : κ) {y : V} {u : Value} (ry : RelV y u) :
    KV (kvs.map fun kv => if kv.1 = k then (kv.1, y) else kv) (vs.map fun kv => if kv.1 = k then (kv.1, u) else kv) := by
  unfold KV at r ⊢
  induction r with
  | nil => exact .nil
  | @cons p q ps qs h t ih =>
    rw [List.map_cons, List.map_cons]
    refine .cons ?_ ih
    obtain ⟨h1, h2⟩ := h
    by_cases e : p.1 = k
    · rw [if_pos e, if_pos (h1.symm.trans e)]; exact ⟨h1, ry⟩
    · rw [if_neg e, if_neg (fun z => e (h1.trans z))]; exact ⟨h1, h2⟩
theorem KV.put {kvs : List (κ × V)} {vs : List (κ × Value)} (r : KV kvs vs) (k : κ) {y : V} {u : Value} (ry : RelV y u) : KV (putK kvs k y) (stored vs k u) := by
  unfold putK stored
  rw [r.any k]
  by_cases e : (vs.any fun kv => decide (kv.1 = k)) = true
  · rw [if_pos e, if_pos e]; exact r.repl k ry
  · rw [if_neg e, if_neg e]; exact Paired.snoc r ⟨rfl, ry⟩
theorem KV.length {kvs : List (κ × V)} {vs : List (κ × Value)} (r : KV kvs vs) : kvs.length = vs.length := Paired.length r
end
theorem kV_is {P : Program} {w : World} {k : Key} {u : Value} (r : RelV (kV k) u) : (mixKind P w).is k u = true := by
  cases k with
  | inl i => obtain ⟨t, e⟩ := (show ∃ t, u = Value.int i t from r); subst e; exact mixKind_int P w i t
  | inr x => obtain ⟨t, e⟩ := (show ∃ t, u = Value.str x t from r); subst e; exact mixKind_str P w x t
theorem items_are {P : Program} {w : World} : ∀ {ks : List Key} {us : List Value}, Vals (ks.map kV) us → ItemsAre (mixKind P w) ks us
  | [], _, r => by rw [List.map_nil] at r; cases r; exact .nil
  | k :: ks, _, r => by
    rw [List.map_cons] at r
    cases r with
    | cons h t => exact .cons (kV_is h) (items_are t)
abbrev KT (H : Hp) : List (List Key × V) → List (List Key × Addr × Value) → Prop := Paired fun p q => p.1 = q.1 ∧ H q.2.1 = some (.tup (p.1.map kV)) ∧ RelV p.2 q.2.2
theorem KT.val {H : Hp} {kvs : List (List Key × V)} {xs : List (List Key × Addr × Value)} (r : KT H kvs xs) (k : List Key) : RelO (valV kvs k) ((atKey xs k).map (·.2)) := by
  induction r with
  | nil => exact True.intro
  | @cons p q ps qs h t ih =>
    obtain ⟨h1, _, h2⟩ := h
    by_cases e : p.1 = k
    · have e' : q.1 = k := h1.symm.trans e
      have b : atKey (q :: qs) k = some q.2 := by simp [atKey, List.find?_cons, e']
      rw [valV_pos e, b]; exact h2
    · have e' : ¬ q.1 = k := fun z => e (h1.trans z)
      have b : atKey (q :: qs) k = atKey qs k := by simp [atKey, List.find?_cons, e']
      rw [valV_neg e, b]; exact ih
theorem KT.repl {H : Hp} {kvs : List (List Key × V)} {xs : List (List Key × Addr × Value)} (r : KT H kvs xs) (k : List Key) {y : V} {u : Value} (ry : RelV y u) :
    KT H (kvs.map fun kv => if kv.1 = k then (kv.1, y) else kv) (xs.map (putAt k u)) := by
  induction r with
  | nil => exact .nil
  | @cons p q ps qs h t ih =>
    rw [List.map_cons, List.map_cons]
    refine .cons ?_ ih
    obtain ⟨h1, h2, h3⟩ := h
    unfold putAt
    by_cases e : p.1 = k
    · rw [if_pos e, if_pos (h1.symm.trans e)]; exact ⟨h1, h2, ry⟩
    · rw [if_neg e, if_neg (fun z => e (h1.trans z))]; exact ⟨h1, h2, h3⟩
theorem KT.put {H : Hp} {kvs : List (List Key × V)} {xs : List (List Key × Addr × Value)} (r : KT H kvs xs) (k : List Key) {b : Addr} {y : V} {u : Value} (hb : H b = some (.tup (k.map kV))) (ry : RelV y u) :
    KT H (putK kvs k y) (storedH xs k b u) := by
  have e : (kvs.any fun kv => decide (kv.1 = k)) = (atKey xs k).isSome := by
    rw [valV_any, (r.val k).isSome_eq, Option.isSome_map]
  unfold putK storedH
  rw [e]
  by_cases q : (atKey xs k).isSome = true
  · rw [if_pos q, if_pos q]; exact r.repl k ry
  · rw [if_neg q, if_neg q]; exact Paired.snoc r ⟨rfl, hb, ry⟩
theorem KT.keeps {H H' : Hp} {kvs : List (List Key × V)} {xs : List (List Key × Addr × Value)} (r : KT H kvs xs) (ht : ∀ b ys, H b = some (.tup ys) → H' b = some (.tup ys)) : KT H' kvs xs :=
  Paired.mapP r fun _ _ z => ⟨z.1, ht _ _ z.2.1, z.2.2⟩
section
variable {P : Program} {w : World} {H : Hp} {h : Heap} {a : Addr}
theorem rd_of {u : HO} (ok : HOk P w H h) (e : Rd H a u) : ObjOk P w H h a u := e.ok ok
theorem dk_rd {kvs : List (Key × V)} (ok : HOk P w H h) (e : Rd H a (.dK kvs)) : kvs.length ≤ sizeLine ∧ (a == sysModules) = false ∧ ∃ vs, KV kvs vs ∧ h.DictOf (mixKind P w) a vs :=
  show ObjOk P w H h a (.dK kvs) from rd_of ok e
theorem dk_of {kvs : List (Key × V)} (ok : HOk P w H h) (e : H a = some (.dK kvs)) : kvs.length ≤ sizeLine ∧ (a == sysModules) = false ∧ ∃ vs, KV kvs vs ∧ h.DictOf (mixKind P w) a vs := dk_rd ok (.inl e)
theorem key_of {ks : List Key} (ok : HOk P w H h) (e : H a = some (.tup (ks.map kV))) : (tupleKind (mixKind P w)).is h ks a := by
  obtain ⟨_, its, r, o, h1, h2, n, h3⟩ := (show ObjOk P w H h a (.tup (ks.map kV)) from ok a _ e)
  exact ⟨o, its.toArray, n, h1, h2, h3, by simpa using items_are r⟩
theorem dt_rd {kvs : List (List Key × V)} (ok : HOk P w H h) (e : Rd H a (.dT kvs)) : kvs.length ≤ sizeLine ∧ (a == sysModules) = false ∧
    ∃ xs, KT H kvs xs ∧ h.DictOfH (tupleKind (mixKind P w)) a xs := by
  obtain ⟨z, y, xs, r, o, es, ep, h1, h2, h3, h4, h5⟩ := (show ObjOk P w H h a (.dT kvs) from rd_of ok e)
  refine ⟨z, y, xs, r, o, es, ep, h1, h2, h3, h4, fun x hx => ?_, h5⟩
  have all : ∀ {l : List (List Key × V)} {m : List (List Key × Addr × Value)}, KT H l m → ∀ x ∈ m, (tupleKind (mixKind P w)).is h x.1 x.2.1 := by
    intro l m q
    induction q with
    | nil => intro x hx; exact nomatch hx
    | @cons p q ps qs hq t ih =>
      intro x hx
      rcases List.mem_cons.mp hx with e | hx
      · subst e
        exact key_of ok (by rw [← hq.1]; exact hq.2.1)
      · exact ih x hx
  exact all r x hx
theorem dt_of {kvs : List (List Key × V)} (ok : HOk P w H h) (e : H a = some (.dT kvs)) : kvs.length ≤ sizeLine ∧ (a == sysModules) = false ∧
    ∃ xs, KT H kvs xs ∧ h.DictOfH (tupleKind (mixKind P w)) a xs := dt_rd ok (.inl e)
end
def DGet (H : Hp) (a : Addr) (y : V) (r : Option V) : Prop :=
  (∃ kvs k, Rd H a (.dK kvs) ∧ y = kV k ∧ r = valV kvs k) ∨ ∃ kvs k b, Rd H a (.dT kvs) ∧ y = .ref b ∧ H b = some (.tup (k.map kV)) ∧ r = valV kvs k
def DPut (H : Hp) (a : Addr) (y v : V) (H' : Hp) : Prop :=
  (∃ kvs k, H a = some (.dK kvs) ∧ y = kV k ∧ kvs.length < sizeLine ∧ H' = upd H a (.dK (putK kvs k v))) ∨
  ∃ kvs k b, H a = some (.dT kvs) ∧ y = .ref b ∧ H b = some (.tup (k.map kV)) ∧ kvs.length < sizeLine ∧ H' = upd H a (.dT (putK kvs k v))
theorem DGet.k {H : Hp} {a : Addr} {kvs : List (Key × V)} {k : Key} (e : H a = some (.dK kvs)) : DGet H a (kV k) (valV kvs k) := .inl ⟨kvs, k, .inl e, rfl, rfl⟩
theorem DPut.k {H : Hp} {a : Addr} {kvs : List (Key × V)} {k : Key} {v : V} (e : H a = some (.dK kvs)) (hl : kvs.length < sizeLine) : DPut H a (kV k) v (upd H a (.dK (putK kvs k v))) := .inl ⟨kvs, k, e, rfl, hl, rfl⟩
section
variable {X : Cx} {pins : List (Addr × Obj)} {σ : St} {H : Hp} {s : Shared} {a : Addr} {y v : V} {u r : Value} {o : Option V} {A : Around} {E : Value → Shared → Prop}
theorem Inv.big (I : Inv X pins σ H s) : sysModules < s.heap.objs.size := by
  have h : mainGlobals < s.heap.objs.size := (I.mod.glob.keeps I.bk).lt
  exact Nat.lt_trans (by decide) h
theorem d_in {Q : Value → Shared → Prop} (hu : A.units + 1 < cLine) (I : Inv X pins σ H s) (g : DGet H a y o) (ry : RelV y u) (h : ∀ s', Inv X pins σ H s' → Q (.bool o.isSome) s') :
    wpAny (model X.prog X.w) A (compareOp .In u (.ref a)) Q E s := by
  rcases g with ⟨kvs, k, e, ey, l⟩ | ⟨kvs, k, b, e, ey, eb, l⟩
  · subst ey
    obtain ⟨z, hd, vs, rel, dd⟩ := dk_rd I.hok e
    refine wpAny_in_of (kV_is ry) hd dd.mapOf ?_
    rw [← (rel.val k).isSome_eq, ← l]
    exact h _ (I.tok _)
  · subst ey
    cases (show u = Value.ref b from ry)
    obtain ⟨z, hd, xs, rel, dd⟩ := dt_rd I.hok e
    refine wpAny_in_heap (tupleKind_room_in1 hu) (key_of I.hok eb) hd dd ?_
    have q := (rel.val k).isSome_eq
    rw [Option.isSome_map] at q
    rw [← q, ← l]
    exact h _ (I.tok _)
theorem d_write {h' : Heap} {t' : Nat} {ob : HO} (I : Inv X pins σ H s) (mu : Mut (H a)) (hs : Heap.SameBut a s.heap h') (he : ∃ q, h'.get? a = some q) (new : ObjOk X.prog X.w (upd H a ob) h' a ob) :
    Inv X pins σ (upd H a ob) { s with heap := h', toks := t' } :=
  I.write (x := a) (e := a) mu (.inl rfl) (fun b q hb z => (hs.2 b hb).trans z) he new
theorem dk_new {P : Program} {w : World} {H' : Hp} {h' : Heap} {kvs : List (Key × V)} {vs : List (Key × Value)} (z : kvs.length ≤ sizeLine) (hd : (a == sysModules) = false) (rel : KV kvs vs) (dd : h'.DictOf (mixKind P w) a vs) :
    ObjOk P w H' h' a (.dK kvs) := ⟨z, hd, vs, rel, dd⟩
theorem d_setItem {H' : Hp} {Q : Unit → Shared → Prop} (hu : A.units + 1 < cLine) (I : Inv X pins σ H s) (g : DPut H a y v H') (ry : RelV y u) (rv : RelV v r) (h : ∀ s', Inv X pins σ H' s' → Q () s') :
    wpAny (model X.prog X.w) A (setItem (.ref a) u r) Q E s := by
  rcases g with ⟨kvs, k, e, ey, l, eH⟩ | ⟨kvs, k, b, e, ey, eb, l, eH⟩
  · subst ey eH
    obtain ⟨z, hd, vs, rel, dd⟩ := dk_of I.hok e
    have hz : vs.length ≤ sizeLine := by rw [← rel.length]; exact z
    have hl : (putK kvs k v).length ≤ sizeLine := by have := length_putK kvs k v; omega
    refine wpAny_setItem_pairs (hsz := hz) (kV_is ry) dd fun h' dd' hs => h _ ?_
    have he : ∃ q, h'.get? a = some q := let ⟨q, _, _, hq, _⟩ := dd'; ⟨q, hq⟩
    exact d_write I (by rw [e]; exact True.intro) hs he (dk_new hl hd (rel.put k rv) dd')
  · subst ey eH
    cases (show u = Value.ref b from ry)
    obtain ⟨z, hd, xs, rel, dd⟩ := dt_of I.hok e
    have hz : xs.length ≤ sizeLine := by rw [← Paired.length rel]; exact z
    have hl : (putK kvs k v).length ≤ sizeLine := by have := length_putK kvs k v; omega
    refine wpAny_setItem_heap (hsz := hz) (tupleKind_room_in1 hu) (key_of I.hok eb) dd fun h' dd' hs => h _ ?_
    obtain ⟨q, es, ep, hq, h2, h3, h4, _, h5⟩ := dd'
    refine d_write I (by rw [e]; exact True.intro) hs ⟨q, hq⟩ ⟨hl, hd, _, (rel.put k eb rv).keeps fun c ys ec => ?_, q, es, ep, hq, h2, h3, h4, h5⟩
    rw [upd_ne (ne_of ec e (fun z => nomatch z))]
    exact ec
end
section
variable {X : Cx} {pins : List (Addr × Obj)} {σ : St} {H : Hp} {s : Shared} {a : Addr} {kvs : List (Key × V)} {k : Key} {u : Value} {A : Around} {E : Value → Shared → Prop}
theorem d_len {Q : Value → Shared → Prop} (I : Inv X pins σ H s) (e : Rd H a (.dK kvs)) (h : ∀ t s', Inv X pins σ H s' → Q (.int kvs.length t) s') : wpAny (model X.prog X.w) A (call (.builtin "len") [.ref a]) Q E s := by
  obtain ⟨z, hd, vs, rel, dd⟩ := dk_rd I.hok e
  refine call_len_dict hd dd (by rw [← rel.length]; rw [sizeLine_eq] at z; omega) ?_
  rw [← rel.length]
  exact h _ _ (I.tok _)
end
section
variable {X : Cx} {o i e value : Expr} {pos pos' tpos : Pos} {td ty tv : TE}
end
theorem dk_empty {P : Program} {w : World} {H : Hp} (h : Heap) (hb : sysModules < h.objs.size) : ObjOk P w H (h.push { cls := .type "dict", data := .dict #[] }) h.objs.size (.dK []) :=
  ⟨Nat.zero_le _, beq_eq_false_iff_ne.mpr (Ne.symm (Nat.ne_of_lt hb)), [], .nil, Heap.DictOf.new h⟩
def tDNewK : TE := fun _ H Q => ∀ p, H p = none → Q (.ref p) (upd H p (.dK []))
section
variable {X : Cx} {pos : Pos}
theorem pe_dnewK : PE X (.Dict [] [] pos) tDNewK := fun pins s σ H Q I h =>
  wpAny_Dict_empty ⟨.ref s.heap.objs.size, _, I.laid (a := s.heap.objs.size) (o := .dK []) (t' := s.toks) (fun _ _ q => Heap.get?_push_of_some _ q) (Nat.le_refl _) (dk_empty s.heap I.big), rfl, h _ (I.hok.fresh (Nat.le_refl _))⟩
end
def tPairs : List (TE × TE) → St → Hp → (List (V × V) → Hp → Prop) → Prop
  | [], _, H, Q => Q [] H
  | (tk, tv) :: r, σ, H, Q => tk σ H fun x H1 => tv σ H1 fun y H2 => tPairs r σ H2 fun ps H3 => Q ((x, y) :: ps) H3
def mergeK (kvs more : List (Key × V)) : List (Key × V) := more.foldl (fun acc kv => putK acc kv.1 kv.2) kvs
def tDisp (trs : List (TE × TE)) : TE := fun σ H Q => ∀ p, H p = none → tPairs trs σ (upd H p (.dK [])) fun ps H2 => H2 p = some (.dK []) ∧ ∃ kvs : List (Key × V), ps = kvs.map (fun kv => (kV kv.1, kv.2)) ∧ kvs.length ≤ 15 ∧ Q (.ref p) (upd H2 p (.dK (mergeK [] kvs)))
structure M2 (X : Cx) (o : Expr) (m : Str) (apos : Pos) (e f : Expr) (cpos : Pos) : Prop where
  base : attributeBase o m X.env (eval o X.env) = eval o X.env
  few : ((backTo cpos (starEach [e, f] X.env)).all (fun x => !x.1) && (backToKw cpos (keywordEach [] X.env)).all (fun x => x.1.isSome)
    && decide (([e, f] : List Expr).length + ([] : List Keyword).length + (if ([] : List Keyword).isEmpty then 0 else 1) < 30)) = true
  line : (apos.endLine == cpos.line) = true
  trees : backTo cpos (starEach [e, f] X.env) = [(false, eval e X.env), (false, eval f X.env)]
section
variable {X : Cx} {pins : List (Addr × Obj)} {σ : St} {H : Hp} {s : Shared} {a : Addr} {y d : V} {u r : Value} {o : Option V} {A : Around} {E : Value → Shared → Prop}
end
section
variable {X : Cx} {o e f : Expr} {apos cpos : Pos} {td ty tx : TE}
end
section
variable {X : Cx} {pins : List (Addr × Obj)} {σ : St} {H : Hp} {s : Shared} {a : Addr} {kvs : List (Key × V)} {A : Around} {E : Value → Shared → Prop}
end
section
variable {X : Cx} {pins : List (Addr × Obj)} {σ : St} {H : Hp} {s : Shared} {a : Addr} {y : V} {u : Value} {A : Around} {E : Value → Shared → Prop}
end
end L2
namespace Att
open PySem PySem.W PySem.Calls PyProof.Rows
theorem ints_of_wellAll {P : Params} {h : Heap} : ∀ (ns : List Int) (vs : List Value), WellAll P h vs (ns.map WData.int) → IntsAre vs ns := by
  intro ns
  induction ns with
  | nil =>
    intro vs w
    rw [List.map_nil] at w
    cases w
    exact .nil
  | cons n ns ih =>
    intro vs w
    rw [List.map_cons] at w
    cases w with
    | cons a b =>
      cases a
      exact .cons _ _ (ih _ b)
theorem script_of {l : OpenLaw} {n : Nat} (hn : l.most = some n) {P : Params} {h : Heap} {args : List WData} {vals : List Value}
    (hpre : l.row.toRowW.claim.pre args = true) (hwl : WellAll P h vals args) :
    ∃ a vs ns, vals = [Value.ref a] ∧ args = [WData.list (ns.map WData.int)] ∧ h.get? a = some { cls := .type "list", data := .seq vs.toArray } ∧ IntsAre vs ns ∧ ns.length ≤ n := by
  have hsh : WShape.hasAll [] args [.list .int] = true := (pre_splitW hpre).1
  have hc : l.pre.holds [] { args := args } = true := (pre_splitW hpre).2
  obtain ⟨d, r, rfl, h1, h2⟩ := hasAllW_cons hsh
  obtain rfl := hasAllW_nil h2
  obtain ⟨xs, rfl, h3⟩ := hasW_list h1
  obtain ⟨ns, rfl⟩ := items_int h3
  have hlen : ns.length ≤ n := by
    unfold OpenLaw.pre at hc
    have h4 : (WTm.not (.lt (.lit (.int (n : Int))) (.len (.arg 0)))).holds [] { args := [.list (ns.map .int)] } = true := by
      have h4 := (holds_andW hc).1
      rw [hn] at h4
      exact h4
    have h5 := condW_of h4 (w_not (w_lt w_lit (w_len_list (w_arg rfl))))
    rw [List.length_map] at h5
    refine Nat.le_of_not_lt fun q => ?_
    have q' : (n : Int) < ((ns.length : Nat) : Int) := by omega
    first
      | (rw [decide_eq_true q'] at h5; exact absurd h5 (by decide))
      | (simp at h5; omega)
  cases hwl with
  | cons w1 w2 =>
    cases w2
    cases w1 with
    | list ho hall => exact ⟨_, _, ns, rfl, rfl, ho, ints_of_wellAll ns _ hall, hlen⟩
theorem post_true (l : OpenLaw) (args : List WData) : l.row.toRowW.claim.post args (.bool true) args = true :=
  postW_of (r := l.row.toRowW) (X := (true == true))
    (show WShape.has [] (.bool true) .bool = true by first | rfl | decide | simp [WShape.has, WShape.arms, WShape.armsAll])
    (show (WTm.eq .res (.lit (.bool true))).value [] { args := args, res := some (.bool true), after := args } = some (.bool (true == true)) from w_eq_bool (w_res rfl) w_lit) rfl
theorem attach_call {l : OpenLaw} {n : Nat} {q : Program} {loose : List Str} {XP : (Str → Option Value) → Heap → Prop} {YP : World → Heap → Prop} {d : DefRec}
    (hn : l.most = some n) (hdf : d.params.defaults = [])
    (call : ∀ (w : World) (s₀ s₁ : Shared) (mg mb : Str → Option Value) (fa : Addr) (o : Obj) (pm cd doc : Value) (a : Addr) (vs : List Value) (ns : List Int),
      Ground q loose [] XP w s₀ mg mb s₁.heap → YP w s₁.heap →
      s₁.heap.get? fa = some o → o.data = .func (docDef d.name d.params d.body d.scope pm cd doc) → s₁.heap.CodeRec cd d.name → mg d.name = some (.ref fa) →
      s₁.heap.get? a = some { cls := .type "list", data := .seq vs.toArray } → IntsAre vs ns → ns.length ≤ n → s₁.gens = #[] →
      codeAny (model l.prog w) callerA (.call (.ref fa) ⟨[.ref a], []⟩) (fun r s' => r = .ok (.ret (.bool true)) ∧ OldK s₁.heap s'.heap ∧ s'.os = s₁.os ∧ AllBare s'.gens) s₁) :
    WalkO q loose XP YP l.row.toRowW d [] (fun f vs => PySem.call f vs) := by
  intro w s₀ s₁ mg mb G Y fa o pm cd doc dV kV ho hd hcd hD hmg hg args vals as hpre hlay hrd hwl hlo
  obtain rfl : dV = .none := Dflts.none hD hdf
  obtain rfl : kV = .none := Dflts.noKw hD
  obtain ⟨a, vs, ns, rfl, rfl, hobj, hints, hlen⟩ := script_of hn hpre hwl
  refine enter_call (codeAny_mono (call w s₀ s₁ mg mb fa o pm cd doc a vs ns G Y ho (fd_plain hd) hcd hmg hobj hints hlen hg) fun r s' hq => ?_)
  obtain ⟨rfl, h2, h3, h4⟩ := hq
  exact ⟨.inl ⟨.bool true, .bool true, [], rfl, fun _ => rfl, .bool true, post_true l _, fun _ => ⟨List.Pairwise.nil, fun _ hm => (nomatch hm)⟩⟩, h2, h3, h4⟩
section
variable {prog : Program} {w : World} {A : Around} {E : Value → Shared → Prop} {s : Shared} {K : Frag}
end
end Att
namespace L2
open PySem PySem.Spec PyProof.Rows
theorem vals_ints : ∀ {vs : List Value} {ns : List Int}, IntsAre vs ns → Vals (ns.map V.int) vs
  | _, _, .nil => .nil
  | _, _, .cons n t h => .cons ⟨t, rfl⟩ (vals_ints h)
def Only (H : Hp) : Prop := ∀ b, H b = none ∨ ∃ o xs, H b = some (.frz o (.lst xs))
theorem law_call {P : Program} {w : World} {K : PySem.W.Frag} {mg mb : Str → Option Value} {CX : CXT} {k : Nat} {fa a : Addr} {fd : FuncData} {x : Str} {sp : Sp} {s₁ : Shared} {vs : List Value} {ns : List Int}
    (KX : K.In s₁.heap) (hns : s₁.heap.Ns mainGlobals mg) (hb : s₁.heap.Ns builtinsNs mb) (hbb : ∀ x : Str, x ≠ "__name__" → mb x = bootBuiltins x) (hlim : s₁.heap.NoLimit) (hg : s₁.gens = #[])
    (ha : s₁.heap.get? a = some { cls := .type "list", data := .seq vs.toArray }) (hi : IntsAre vs ns) (hl : ns.length ≤ sizeLine) (hr : Room k callerA)
    (F : ∀ base : Heap, K.In base → base.Ns mainGlobals mg → FnOk P w K mg base CX k fa fd [x] sp) (hbind : ∀ (s : Shared) (u : Value), BindsTo s fd ⟨[u], []⟩ [(x, u)])
    (hsp : ∀ H : Hp, Only H → SqL K H a (ns.map V.int) → sp [.ref a] H (fun v _ => v = .bl true) fun _ _ _ => False)
    (hCX : ∀ H e s', CX [] H s₁ (fun _ _ _ => False) e s' → False) :
    codeAny (model P w) callerA (.call (.ref fa) ⟨[.ref a], []⟩) (fun r s' => r = .ok (.ret (.bool true)) ∧ OldK s₁.heap s'.heap ∧ s'.os = s₁.os ∧ AllBare s'.gens) s₁ := by
  have rv := vals_ints hi
  have lenV := hi.length
  -- from an abstract heap in which nothing but the script may be tracked
  have core : ∀ H : Hp, Only H → SqL K H a (ns.map V.int) → HOk P w H s₁.heap → (∀ b, H b ≠ none → b = a) → (H a ≠ none → K.lookup a = none) →
      codeAny (model P w) callerA (.call (.ref fa) ⟨[.ref a], []⟩) (fun r s' => r = .ok (.ret (.bool true)) ∧ OldK s₁.heap s'.heap ∧ s'.os = s₁.os ∧ AllBare s'.gens) s₁ := by
    intro H hO hS hok hA hK
    have base_of : ∀ {b : Addr} {o : Obj}, s₁.heap.get? b = some o → H b = none → (hidT s₁.heap H).get? b = some o := fun e n => hidT_get e n
    have noA : ∀ {b : Addr} {o : Obj} {es : Array DictEntry} {ep : Nat}, s₁.heap.get? b = some o → o.data = .dict es ep → H b = none := fun {b o es ep} e d => by
      cases q : H b with
      | none => rfl
      | some u =>
        have e' : b = a := hA b (by rw [q]; simp)
        subst e'
        rw [ha] at e; cases e
        have d' : Data.seq vs.toArray _ = Data.dict es ep := d
        cases d'
    have nsK : ∀ {b : Addr} {m : Str → Option Value}, s₁.heap.Ns b m → (hidT s₁.heap H).Ns b m := fun {b m} ⟨o, es, ep, e, d, r⟩ => ⟨o, es, ep, base_of e (noA e d), d, r⟩
    have hKb : K.In (hidT s₁.heap H) := fun b o e => base_of (KX b o e) (by
      cases q : H b with
      | none => rfl
      | some u =>
        have e' : b = a := hA b (by rw [q]; simp)
        subst e'
        rw [hK (by rw [q]; simp)] at e; cases e)
    have hM : Mod K mg (hidT s₁.heap H) := ⟨hKb, nsK hns, ⟨mb, nsK hb, hbb⟩, let ⟨mc, h1, h2⟩ := hlim; ⟨mc, nsK h1, h2⟩⟩
    have e0 : Env0 P w K mg (hidT s₁.heap H) callerA [] s₁ H := ⟨rfl, hM, fun b o e => of_hidT e, Nat.le_of_eq (hidT_size _ _), trivial, fun b hb => absurd (show b ∈ ([] : List Addr) from hb) (by simp), hok, .of_eq hg⟩
    refine codeAny_mono ((F _ hKb (nsK hns)).run callerA [] s₁ H ⟨[.ref a], []⟩ [.ref a] [.ref a] _ _ hr e0 (hbind s₁ (.ref a)) (.cons rfl .nil) (hsp H hO hS)) fun r s' h => ?_
    cases r with
    | error e => exact (hCX H e s' h).elim
    | ok fl =>
      cases fl with
      | next => exact False.elim h
      | brk => exact False.elim h
      | cont => exact False.elim h
      | ret u =>
        obtain ⟨v, H', os, bare, un, hok', r', q⟩ := h
        have q' : v = .bl true := q
        subst q'
        obtain rfl : u = Value.bool true := r'
        refine ⟨rfl, OldK.of_keep fun b o e => ?_, os, bare⟩
        cases q : H b with
        | none => exact un.keep b o e q (by intro z; exact absurd (show b ∈ ([] : List Addr) from z) (by simp)) (by simp)
        | some u =>
          rcases hO b with z | ⟨ob, xs, z⟩
          · rw [q] at z; cases z
          · have z2 := un.frzs b ob _ z
            obtain ⟨e1, _⟩ := hok b _ z
            obtain ⟨e2, _⟩ := hok' b _ z2
            rw [e] at e1; cases e1
            exact e2
  cases hk : K.lookup a with
  | some o =>
    -- the script is one of the module's own objects
    have e := KX a o hk
    rw [ha] at e
    cases e
    refine core (fun _ => none) (fun _ => .inl rfl) (.inr ⟨_, vs.toArray, _, hk, rfl, rfl, rfl, by rw [List.size_toArray, lenV]; exact hl, by simpa using rv⟩) (fun b u z => by have z' : (none : Option HO) = some u := z; cases z') (fun b z => absurd rfl z) fun z => absurd rfl z
  | none =>
    refine core (fun b => if b = a then some (.frz { cls := .type "list", data := .seq vs.toArray } (.lst (ns.map V.int))) else none) (fun b => ?_) (.inl (.inr ⟨{ cls := .type "list", data := .seq vs.toArray }, if_pos rfl⟩)) (fun b u z => ?_) (fun b z => ?_) fun _ => hk
    · by_cases hb : b = a
      · exact .inr ⟨_, _, if_pos hb⟩
      · exact .inl (if_neg hb)
    · by_cases hb : b = a
      · have z' := (if_pos hb).symm.trans z
        cases z'
        subst hb
        exact ⟨ha, by rw [List.length_map]; exact hl, vs, _, rv, ha⟩
      · have z' := (if_neg hb).symm.trans z
        cases z'
    · by_cases hb : b = a
      · exact hb
      · exact absurd (if_neg hb) z
end L2
namespace L2
open PySem PySem.Spec PyProof.Rows
theorem walk_of {l : PySem.W.OpenLaw} {n k : Nat} {q : Program} {loose : List Str} {XP : (Str → Option Value) → Heap → Prop} {YP : World → Heap → Prop} {d : DefRec} {K : Params → PySem.W.Frag} {CX : World → CXT} {sp : World → Sp} {x : Str}
    (hn : l.most = some n) (hn2 : n ≤ sizeLine) (hdf : d.params.defaults = []) (hr : Room k callerA)
    (hY : ∀ (w : World) (h : Heap), YP w h → (K w.params).In h)
    (F : ∀ (w : World) (mg : Str → Option Value) (fa : Addr) (h : Heap), (K w.params).In h → h.Ns mainGlobals mg → mg d.name = some (.ref fa) →
      ∃ fd : FuncData, (∀ (s : Shared) (u : Value), BindsTo s fd ⟨[u], []⟩ [(x, u)]) ∧
        ∀ base : Heap, (K w.params).In base → base.Ns mainGlobals mg → FnOk l.prog w (K w.params) mg base (CX w) k fa fd [x] (sp w))
    (hsp : ∀ (w : World) (H : Hp) (a : Addr) (ns : List Int), ns.length ≤ n → Only H → SqL (K w.params) H a (ns.map V.int) → sp w [.ref a] H (fun v _ => v = .bl true) fun _ _ _ => False)
    (hCX : ∀ (w : World) (H : Hp) (s : Shared) (e : Value) (s' : Shared), CX w [] H s (fun _ _ _ => False) e s' → False) :
    PySem.W.WalkO q loose XP YP l.row.toRowW d [] (fun f vs => PySem.call f vs) := by
  refine Att.attach_call hn hdf fun w s₀ s₁ mg mb fa o pm cd doc a vs ns G Y ho hd hcd hmg hobj hints hlen hg => ?_
  have KX := hY w _ Y
  obtain ⟨fd, hb, hF⟩ := F w mg fa _ KX G.T.g hmg
  exact law_call KX G.T.g G.T.b G.T.builtins G.T.nolimit hg hobj hints (Nat.le_trans hlen hn2) hr hF hb (fun H hO hS => hsp w H a ns hlen hO hS) fun H e s' => hCX w H s₁ e s'
end L2
namespace L2
open PySem PySem.Spec PyProof.Rows
def defArgs (s : Stmt) : Arguments := match s with
  | .FunctionDef _ a _ _ _ _ _ _ _ _ => a
  | _ => { posonlyargs := [], args := [], vararg := none, kwonlyargs := [], kw_defaults := [], kwarg := none, defaults := [] }
def defBody (s : Stmt) : List Stmt := match s with
  | .FunctionDef _ _ b _ _ _ _ _ _ _ => b
  | _ => []
def defScope (s : Stmt) : Scope := match s with
  | .FunctionDef _ _ _ _ _ _ sc _ _ _ => sc
  | _ => { kind := .function, names := [], isGenerator := false, isCoroutine := false }
abbrev CX0 : CXT := fun _ _ _ _ _ _ => False
abbrev E0 : XK := fun _ _ _ => False
theorem pass0 {X : Cx} : Passes CX0 X E0 := fun _ _ _ _ _ _ _ h => h.elim
structure Fun (K : PySem.W.Frag) (x qual : Str) (st : Stmt) (f : Addr) (fd : FuncData) : Prop where
  ex : ∃ (oc : Value) (od : Option Addr) (kV doc pm : Value) (an : Option Addr) (cdv ct : Value) (osl : Array (Option Value)),
    fd = PySem.W.fnOf x qual (defArgs st) (defBody st) (defScope st) .none kV doc pm an cdv ct ∧ K.lookup f = some ⟨oc, od, .func fd, osl⟩ ∧ PySem.W.codeIn K cdv qual = true
  kp : PySem.W.keepIn K (.ref f) = true
section
variable {P : Program} {w : World} {K : PySem.W.Frag} {mg : Str → Option Value} {base : Heap}
theorem Fun.ok {x qual : Str} {st : Stmt} {f : Addr} {fd : FuncData} {N ps : List Str} {k : Nat} {sp : Sp} (F : Fun K x qual st f fd) (S : FnScope N ps (defScope st)) (len : ∀ vs H Q E, sp vs H Q E → vs.length = ps.length)
    (hbody : ∀ (cdv : Value) (A : Around) (outer : List Env) (s : Shared) (H : Hp) (vs : List V) (Q : VK) (E : XK), Room k (A.deeper (envOfC qual (defScope st) s.heap.objs.size f cdv)) → sp vs H Q E →
      ∃ t, PSs (cxOf CX0 P w K mg base N qual (defScope st) f cdv A outer s H E).nox (defBody st) t ∧ t { nx := fun _ H' => Q .non H', rt := Q } (start N vs) H) : FnOk P w K mg base CX0 (k + 1) f fd ps sp := by
  obtain ⟨oc, od, kV, doc, pm, an, cdv, ct, osl, rfl, lk, hcd⟩ := F.ex
  refine fn_of lk hcd S len fun A outer s H vs Q E hr hsp => ?_
  obtain ⟨t, h, q⟩ := hbody cdv A outer s H vs Q E hr hsp
  exact ⟨t, h.nox, q⟩
theorem Fun.binds {x qual : Str} {st : Stmt} {f : Addr} {fd : FuncData} {ps : List Str} (F : Fun K x qual st f fd)
    (h : ∀ (kV doc pm : Value) (an : Option Addr) (cdv ct : Value) (us : List Value), us.length = ps.length → bindArgs (PySem.W.fnOf x qual (defArgs st) (defBody st) (defScope st) .none kV doc pm an cdv ct) ⟨us, []⟩ = pure (ps.zip us)) : Binds K fd ps [] := by
  obtain ⟨oc, od, kV, doc, pm, an, cdv, ct, osl, rfl, lk, hcd⟩ := F.ex
  exact .all (h kV doc pm an cdv ct)
theorem fun_mk {x qual : Str} {st : Stmt} {f : Addr} {oc : Value} {od an : Option Addr} {osl : Array (Option Value)} {kV doc pm cdv ct : Value} (l : K.lookup f = some ⟨oc, od, .func (PySem.W.fnOf x qual (defArgs st) (defBody st) (defScope st) .none kV doc pm an cdv ct), osl⟩)
    (c : PySem.W.codeIn K cdv qual = true) (k : PySem.W.keepIn K (.ref f) = true) : Fun K x qual st f (PySem.W.fnOf x qual (defArgs st) (defBody st) (defScope st) .none kV doc pm an cdv ct) := ⟨⟨oc, od, kV, doc, pm, an, cdv, ct, osl, rfl, l, c⟩, k⟩
end
theorem hu_of {A : Around} {k : Nat} (hr : Room k A) : A.units + 1 < cLine := Nat.lt_of_le_of_lt (Nat.add_le_add_left (by decide : 1 ≤ 64) _) hr.units
theorem small1000 {n : Nat} (h : n ≤ 1000) : n < sizeLine := Nat.lt_of_le_of_lt h (by decide)
section
variable {X : Cx}
theorem pv (i : Nat) {x : Str} {pos : Pos} (hN : X.N[i]? = some x := by rfl) (hv : Vis X.env.scope x := by first | exact Or.inl rfl | exact Or.inr (Or.inl rfl) | exact Or.inr (Or.inr rfl)) (hd : (x == ("__debug__" : Str)) = false := by decide)
    (hcd : (x == ("__classdict__" : Str)) = false := by decide) : PE X (.Name x pos) (tVar i) := pe_var hN hv hd hcd
end
theorem ite2 {c A B : Prop} [Decidable c] (h1 : c → A) (h2 : ¬ c → B) : if c then A else B := by
  by_cases h : c
  · rw [if_pos h]
    exact h1 h
  · rw [if_neg h]
    exact h2 h
def Same (H H' : Hp) : Prop := ∀ b o, H b = some o → H' b = some o
theorem Same.refl (H : Hp) : Same H H := fun _ _ h => h
theorem Same.trans {H H1 H2 : Hp} (a : Same H H1) (b : Same H1 H2) : Same H H2 := fun c o h => b c o (a c o h)
theorem Same.free {H H' : Hp} (e : Same H H') {l : Addr} (h : H' l = Option.none) : H l = Option.none := by
  cases q : H l with
  | none => rfl
  | some o =>
    rw [e l o q] at h
    cases h
theorem Same.seq {K : PySem.W.Frag} {H H' : Hp} {a : Addr} {xs : List V} (e : Same H H') (h : SqL K H a xs) : SqL K H' a xs := by
  rcases h with (h | ⟨o, h⟩) | h
  · exact .inl (.inl (e _ _ h))
  · exact .inl (.inr ⟨o, e _ _ h⟩)
  · exact .inr h
end L2
namespace L2
open PySem PySem.Spec PyProof.Rows
section
variable {X : Cx}
end
end L2
namespace L2
open PySem PySem.Spec PyProof.Rows
section
variable {κ : Type} [DecidableEq κ]
end
end L2
set_option Elab.async false
set_option linter.all false
set_option maxRecDepth 100000
namespace L2
open PySem PySem.Spec PyProof.Rows
section
variable {σ : St} {H : Hp} {Q : VK} {D : Ends}
theorem w_var {i : Nat} : tVar i σ H Q = ∃ v, σ[i]? = some (some v) ∧ Q v H := rfl
theorem w_C {v : V} : tC v σ H Q = Q v H := rfl
theorem w_op {r : R2} {ta tb : TE} : tOp r ta tb σ H Q = ta σ H fun x H1 => tb σ H1 fun y H2 => r x y H2 Q := rfl
theorem w_un {r : V → Hp → VK → Prop} {ta : TE} : tUn r ta σ H Q = ta σ H fun x H1 => r x H1 Q := rfl
theorem w_rI {C : Int → Int → Prop} {g : Int → Int → V} {i j : Int} : rI C g (.int i) (.int j) H Q = (C i j ∧ Q (g i j) H) :=
  propext ⟨fun ⟨a, b, e1, e2, c, q⟩ => by cases e1; cases e2; exact ⟨c, q⟩, fun ⟨c, q⟩ => ⟨i, j, rfl, rfl, c, q⟩⟩
theorem w_rI0 {g : Int → Int → V} {i j : Int} : rI0 g (.int i) (.int j) H Q = Q (g i j) H :=
  propext ⟨fun ⟨a, b, e1, e2, q⟩ => by cases e1; cases e2; exact q, fun q => ⟨i, j, rfl, rfl, q⟩⟩
theorem w_rU {g : Int → V} {i : Int} : rU g (.int i) H Q = Q (g i) H :=
  propext ⟨fun ⟨a, e1, q⟩ => by cases e1; exact q, fun q => ⟨i, rfl, q⟩⟩
theorem w_eqI {i j : Int} : rEq (.int i) (.int j) H Q = Q (.bl (decide (i = j))) H :=
  propext (by
    have e : decide (V.int i = V.int j) = decide (i = j) := by by_cases h : i = j <;> simp [h]
    unfold rEq; rw [e]; exact ⟨fun h => h.2, fun h => ⟨rfl, h⟩⟩)
theorem w_neI {i j : Int} : rNe (.int i) (.int j) H Q = Q (.bl (!decide (i = j))) H :=
  propext (by
    have e : decide (V.int i = V.int j) = decide (i = j) := by by_cases h : i = j <;> simp [h]
    unfold rNe; rw [e]; exact ⟨fun h => h.2, fun h => ⟨rfl, h⟩⟩)
theorem w_seq {t u : TS} : tSeq t u D σ H = t { D with nx := u D } σ H := rfl
theorem w_next : tNext D σ H = D.nx σ H := rfl
theorem w_break : tBreak D σ H = D.bk σ H := rfl
theorem w_cont : tCont D σ H = D.ct σ H := rfl
theorem w_ifS {c : TT} {t u : TS} : tIfS c t u D σ H = c σ H fun b H1 => if b = true then t D σ H1 else u D σ H1 := rfl
theorem w_ret {te : TE} : tRet te D σ H = te σ H D.rt := rfl
theorem w_retN : tRetN D σ H = D.rt .non H := rfl
theorem w_drop {te : TE} : tDrop te D σ H = te σ H fun _ H1 => D.nx σ H1 := rfl
theorem w_asg {te : TE} {g : TG} : tAsg te g D σ H = te σ H fun x H1 => g x σ H1 D.nx := rfl
theorem w_gName {i : Nat} {v : V} {R : St → Hp → Prop} : gName i v σ H R = R (σ.set i (some v)) H := rfl
theorem w_gSub {to ti : TE} {t : TSet} {v : V} {R : St → Hp → Prop} : gSub to ti t v σ H R = to σ H fun o H1 => ti σ H1 fun i H2 => t o i v H2 fun H3 => R σ H3 := rfl
theorem w_test {t : TE} {R : Bool → Hp → Prop} : tTest t σ H R = t σ H fun x H' => ∃ k, x = .bl k ∧ R k H' := rfl
theorem w_B {t : TE} {R : Bool → Hp → Prop} : tB t σ H R = t σ H fun x H' => ∃ k, x = .bl k ∧ R k H' := rfl
theorem w_and {t u : TT} {R : Bool → Hp → Prop} : tAnd t u σ H R = t σ H fun c H1 => if c = true then u σ H1 R else R false H1 := rfl
theorem w_or {t u : TT} {R : Bool → Hp → Prop} : tOr t u σ H R = t σ H fun c H1 => if c = true then R true H1 else u σ H1 R := rfl
theorem w_not {t : TT} {R : Bool → Hp → Prop} : tNot t σ H R = t σ H fun c H1 => R (!c) H1 := rfl
theorem w_andV {ta tb : TE} : tAndV ta tb σ H Q = ta σ H fun x H1 => ∃ c, x = .bl c ∧ if c = true then tb σ H1 Q else Q (.bl false) H1 := rfl
theorem w_orV {ta tb : TE} : tOrV ta tb σ H Q = ta σ H fun x H1 => ∃ c, x = .bl c ∧ if c = true then Q (.bl true) H1 else tb σ H1 Q := rfl
theorem w_notV {ta : TE} : tNotV ta σ H Q = ta σ H fun x H1 => ∃ c, x = .bl c ∧ Q (.bl (!c)) H1 := rfl
theorem w_if {t : TT} {ta tb : TE} : tIf t ta tb σ H Q = t σ H fun c H1 => if c = true then ta σ H1 Q else tb σ H1 Q := rfl
theorem w_call {sp : Sp} {dvs : List V} {E : XK} {t : TA} : tCall sp dvs E t σ H Q = t σ H fun vs H1 => sp (vs ++ dvs) H1 Q E := rfl
theorem w_nil {R : List V → Hp → Prop} : tNil σ H R = R [] H := rfl
theorem w_cons {ta : TE} {tr : TA} {R : List V → Hp → Prop} : tCons ta tr σ H R = ta σ H fun x H1 => tr σ H1 fun xs H2 => R (x :: xs) H2 := rfl
theorem w_CB {r : List V → Hp → VK → Prop} {t : TA} : tCB r t σ H Q = t σ H fun vs H1 => r vs H1 Q := rfl
theorem w_lst {t : TA} : tLst t σ H Q = t σ H fun xs H1 => xs.length ≤ sizeLine ∧ ∀ p, H1 p = none → Q (.ref p) (upd H1 p (.lst xs)) := rfl
theorem w_tup {t : TA} : tTup t σ H Q = t σ H fun xs H1 => xs.length ≤ sizeLine ∧ ∀ p, H1 p = none → Q (.ref p) (upd H1 p (.tup xs)) := rfl
theorem w_isN {ta : TE} : tIsN ta σ H Q = ta σ H fun x H1 => Q (.bl (decide (x = .non))) H1 := rfl
theorem w_notN {ta : TE} : tNotN ta σ H Q = ta σ H fun x H1 => Q (.bl (!decide (x = .non))) H1 := rfl
theorem w_chain {r r' : R2} {ta tb tc : TE} : tChain r r' ta tb tc σ H Q = (ta σ H fun x H1 => tb σ H1 fun y H2 => r x y H2 fun z H3 => ∃ k, z = .bl k ∧
  if k = true then tc σ H3 fun w H4 => r' y w H4 Q else Q (.bl false) H3) := by first | rfl | (unfold tChain; rfl)
end
section
variable {X : Cx} {st : Stmt} {rest : List Stmt} {t u : TS}
def tMid (t u : TS) : TS := fun D σ H => ∃ mid : St → Hp → Prop, t { D with nx := mid } σ H ∧ ∀ σ' H', mid σ' H' → u D σ' H'
theorem pss_mid (h1 : PS X st t) (h2 : PSs X rest u) : PSs X (st :: rest) (tMid t u) := by
  intro pins s σ H D I h
  obtain ⟨mid, q, k⟩ := h
  refine wpAny_execs_cons (thn (h1 pins s σ H { D with nx := mid } I q) fun f s1 q => ?_)
  cases f with
  | next =>
    obtain ⟨σ', H', I', q⟩ := q
    exact h2 pins s1 σ' H' D I' (k _ _ q)
  | ret v => exact q
  | brk => exact q
  | cont => exact q
end
structure Cal (P : Program) (w : World) (K : PySem.W.Frag) (mg : Str → Option Value) (base : Heap) (k : Nat) (x : Str) (ps : List Str) (sp : Sp) : Prop where
  ex : ∃ (f : Addr) (fd : FuncData), FnOk P w K mg base CX0 k f fd ps sp ∧ mg x = some (.ref f) ∧ PySem.W.keepIn K (.ref f) = true ∧ Binds K fd ps []
theorem Cal.mono {P : Program} {w : World} {K : PySem.W.Frag} {mg : Str → Option Value} {base : Heap} {j k : Nat} {x : Str} {ps : List Str} {sp : Sp} (C : Cal P w K mg base j x ps sp) (h : j ≤ k) : Cal P w K mg base k x ps sp := by
  obtain ⟨f, fd, a, b, c, d⟩ := C.ex
  exact ⟨f, fd, a.mono h, b, c, d⟩
section
variable {X : Cx} {k : Nat} {x : Str} {ps : List Str} {sp : Sp} {e : Expr} {es : List Expr} {t : TA} {p pos : Pos}
theorem pe_cal (C : Cal X.prog X.w X.K X.mg X.base k x ps sp) (hr : Room k X.A) (hg : Gl X x) (ha : PA X (e :: es) t) (hd : (x == ("__debug__" : Str)) = false := by decide)
    (he : starEach (e :: es) X.env = (false, eval e X.env) :: starEach es X.env := by rfl) (hpl : (backTo pos (starEach es X.env)).any (·.1) = false := by rfl) : PE X (.Call (.Name x p) (e :: es) [] pos) (tCall sp [] E0 t) := by
  obtain ⟨f, fd, a, b, c, d⟩ := C.ex
  exact pe_call a hr hg b c d .nil pass0 ha hd he hpl
end
theorem bits_le {i : Int} {n : Nat} (h : i.natAbs < 2 ^ n) : Builtin.Int.intBits i ≤ n := by
  unfold Builtin.Int.intBits
  split
  · exact Nat.zero_le _
  · rename_i h0
    have hp : i.natAbs ≠ 0 := by
      intro z
      exact h0 (by simpa using z)
    have : i.natAbs.log2 < n := (Nat.log2_lt hp).mpr h
    omega
def CShl (i j : Int) : Prop := 0 ≤ j ∧ j ≤ 1000000 ∧ Builtin.Int.intBits i ≤ 1000000
def CDivB (i j : Int) : Prop := 0 < j ∧ j.natAbs.log2 < 9000
section
variable {X : Cx}
theorem op_shlB : OpR X (binaryOp .LShift) (rI CShl fun i j => .int (i * 2 ^ j.toNat)) := opI fun i j _ _ _ _ _ hc q => lshift_int hc.1 (by have h1 := hc.2.1; have h2 := hc.2.2; omega) q
theorem op_mulB : OpR X (binaryOp .Mult) (rI IntMulOk fun i j => .int (i * j)) := opI fun _ _ _ _ _ _ _ hc q => mul_int q hc
theorem op_fdivB : OpR X (binaryOp .FloorDiv) (rI CDivB fun i j => .int (i / j)) := opI fun i j _ _ _ _ _ hc q => by
  have e : i / j = i.fdiv j := (Int.fdiv_eq_ediv_of_nonneg i (Int.le_of_lt hc.1)).symm
  rw [e] at q
  exact floordiv_int (by have := hc.1; omega) q (.inl (PyProof.noPylong_of_log2 hc.2))
def rIsI (K : PySem.W.Frag) : List V → Hp → VK → Prop := fun xs H Q => ∃ x T t b, xs = [x, .ty T] ∧ TyOf K H x t ∧ PySem.W.kitOne K t (.type T) = some b ∧ Q (.bl b) H
theorem call_isI : CallR X (.builtin "isinstance") (rIsI X.K) := by
  intro pins s σ H xs us Q I r h
  obtain ⟨x, T, t, b, rfl, ty, e, q⟩ := h
  obtain ⟨u1, u2, rfl, r1, r2⟩ := Vals.two r
  cases r2
  exact isinst_ok I r1 ty e fun tk => ⟨.bl b, H, I.tok _, rfl, q⟩
end
theorem mul_l {i j : Int} (h1 : -(2 ^ 64) < i) (h2 : i < 2 ^ 64) : IntMulOk i j := .of_left (intBits_le_64 h1 h2)
theorem mul_r {i j : Int} (h1 : -(2 ^ 64) < j) (h2 : j < 2 ^ 64) : IntMulOk i j := .of_right (intBits_le_64 h1 h2)
theorem kit_same {K : PySem.W.Frag} (T : String) : PySem.W.kitOne K (.type T) (.type T) = some true := by unfold PySem.W.kitOne; rw [if_pos (by simp)]
theorem kit_int_bool {K : PySem.W.Frag} : PySem.W.kitOne K (.type "int") (.type "bool") = some false := by first | rfl | decide +kernel | (unfold PySem.W.kitOne PySem.W.kitCls; decide +kernel)
theorem kit_bool_int {K : PySem.W.Frag} : PySem.W.kitOne K (.type "bool") (.type "int") = some true := by first | rfl | decide +kernel
theorem kit_non_int {K : PySem.W.Frag} : PySem.W.kitOne K (.type "NoneType") (.type "int") = some false := by first | rfl | decide +kernel
theorem kit_str_int {K : PySem.W.Frag} : PySem.W.kitOne K (.type "str") (.type "int") = some false := by first | rfl | decide +kernel
end L2
set_option Elab.async false
set_option linter.all false
set_option maxRecDepth 100000
namespace L2
open PySem PySem.Spec PyProof.Rows
theorem bo_len : bootBuiltins "len" = some (.builtin "len") := by decide +kernel
theorem bo_abs : bootBuiltins "abs" = some (.builtin "abs") := by decide +kernel
theorem bo_isinstance : bootBuiltins "isinstance" = some (.builtin "isinstance") := by decide +kernel
theorem bo_int : bootBuiltins "int" = some (.type "int") := by decide +kernel
theorem bo_bool : bootBuiltins "bool" = some (.type "bool") := by decide +kernel
theorem bo_list : bootBuiltins "list" = some (.type "list") := by decide +kernel
theorem bo_tuple : bootBuiltins "tuple" = some (.type "tuple") := by decide +kernel
theorem bo_str : bootBuiltins "str" = some (.type "str") := by decide +kernel
theorem bo_zip : bootBuiltins "zip" = some (.type "zip") := by decide +kernel
theorem bo_reversed : bootBuiltins "reversed" = some (.type "reversed") := by decide +kernel
def CPowB (i j : Int) : Prop := 0 ≤ j ∧ j ≤ 1000000 ∧ -(2 ^ 64) < i ∧ i < 2 ^ 64
section
variable {X : Cx}
theorem op_powB : OpR X (binaryOp .Pow) (rI CPowB fun i j => .int (i ^ j.toNat)) := opI fun i j _ _ _ _ _ hc q => pow_int_small hc.1 hc.2.1 (by have h1 := hc.2.2.1; have h2 := hc.2.2.2; omega) q
end
theorem w_shl1 {j : Int} : CShl 1 j = (0 ≤ j ∧ j ≤ 1000000) := propext ⟨fun h => ⟨h.1, h.2.1⟩, fun h => ⟨h.1, h.2, Nat.le_trans (bits_le (n := 1) (by decide)) (by decide)⟩⟩
theorem divB {i j : Int} (h : 0 < j) (h2 : j < 2 ^ 64) : CDivB i j := ⟨h, by
  have e : j.natAbs < 2 ^ 64 := by omega
  have e2 : j.natAbs ≠ 0 := by omega
  have := (Nat.log2_lt e2).mpr e
  omega⟩
section
variable {P : Program} {w : World} {K : PySem.W.Frag} {mg : Str → Option Value} {base : Heap}
theorem mkCal {x qual : Str} {st : Stmt} {N ps : List Str} {k : Nat} {sp : Sp} (T : ∃ (f : Addr) (fd : FuncData), Fun K x qual st f fd ∧ mg x = some (.ref f) ∧ Binds K fd ps []) (S : FnScope N ps (defScope st)) (len : ∀ vs H Q E, sp vs H Q E → vs.length = ps.length)
    (hbody : ∀ (f : Addr) (cdv : Value) (A : Around) (outer : List Env) (s : Shared) (H : Hp) (vs : List V) (Q : VK) (E : XK), Room k (A.deeper (envOfC qual (defScope st) s.heap.objs.size f cdv)) → sp vs H Q E →
      ∃ t, PSs (cxOf CX0 P w K mg base N qual (defScope st) f cdv A outer s H E).nox (defBody st) t ∧ t { nx := fun _ H' => Q .non H', rt := Q } (start N vs) H) : Cal P w K mg base (k + 1) x ps sp := by
  obtain ⟨f, fd, F, m, b⟩ := T
  exact ⟨f, fd, F.ok S len fun cdv A outer s H vs Q E hr h => hbody f cdv A outer s H vs Q E hr h, m, F.kp, b⟩
end
def Chg (p : Addr) (H H' : Hp) : Prop := ∀ b o, b ≠ p → H b = some o → H' b = some o
theorem Chg.trans {p : Addr} {H H1 H2 : Hp} (a : Chg p H H1) (b : Chg p H1 H2) : Chg p H H2 := fun c o n h => b c o n (a c o n h)
theorem Same.chg {p : Addr} {H H' : Hp} (h : Same H H') : Chg p H H' := fun b o _ q => h b o q
theorem Chg.upd {p : Addr} {H : Hp} (o : HO) : Chg p H (upd H p o) := fun b u n q => by rw [upd_ne n]; exact q
theorem same_new {H : Hp} {p : Addr} (h : H p = none) (o : HO) : Same H (upd H p o) := fun b u q => by rw [upd_ne (ne_of_none q h)]; exact q
def Scr (K : PySem.W.Frag) (H : Hp) (a : Addr) (ns : List Int) : Prop :=
  (∃ o, H a = some (.frz o (.lst (ns.map V.int)))) ∨ (∃ (o : Obj) (its : Array Value) (n : Nat), K.lookup a = some o ∧ o.cls = .type "list" ∧ o.dict = none ∧ o.data = .seq its n ∧ its.size ≤ sizeLine ∧ Vals (ns.map V.int) its.toList)
section
variable {K : PySem.W.Frag} {H H' : Hp} {a p : Addr} {ns : List Int}
theorem Scr.sq (h : Scr K H a ns) : SqL K H a (ns.map V.int) := by
  rcases h with h | h
  · exact .inl (.inr h)
  · exact .inr h
theorem scr_of (hO : Only H) (hS : SqL K H a (ns.map V.int)) : Scr K H a ns := by
  rcases hS with (h | h) | h
  · rcases hO a with z | ⟨o, xs, z⟩
    · rw [z] at h; cases h
    · rw [z] at h; cases h
  · exact .inl h
  · exact .inr h
theorem Scr.same (h : Scr K H a ns) (s : Same H H') : Scr K H' a ns := by
  rcases h with ⟨o, h⟩ | h
  · exact .inl ⟨o, s _ _ h⟩
  · exact .inr h
theorem Scr.chg {xs : List V} (h : Scr K H a ns) (hp : H p = some (.lst xs)) (s : Chg p H H') : Scr K H' a ns := by
  rcases h with ⟨o, h⟩ | h
  · exact .inl ⟨o, s _ _ (ne_of h hp (by intro z; cases z)) h⟩
  · exact .inr h
end
def spLaw (K : PySem.W.Frag) : Sp := fun vs H Q _ => ∃ (a : Addr) (ns : List Int), vs = [.ref a] ∧ Scr K H a ns ∧ ns.length ≤ 63 ∧ ∀ H', Q (.bl true) H'
theorem atI_int {ns : List Int} {i : Int} (h0 : 0 ≤ i) (h1 : i < (ns.length : Int)) : ∃ v : Int, atI (ns.map V.int) i = some (.int v) ∧ ns[i.toNat]? = some v := by
  have hk : i.toNat < ns.length := by omega
  have e : i = ((i.toNat : Nat) : Int) := by omega
  have q : atI (ns.map V.int) ((i.toNat : Nat) : Int) = some (.int ns[i.toNat]) := atI_nat (by rw [List.getElem?_map, List.getElem?_eq_getElem hk] <;> rfl)
  rw [← e] at q
  exact ⟨ns[i.toNat], q, List.getElem?_eq_getElem hk⟩
def lim : Nat → Int
  | 0 => 11
  | n + 1 => 1000000 * (lim n - 1)
def rIxM : R2 := fun x y H Q => ∃ p xs i v, x = .ref p ∧ y = .int i ∧ H p = some (.lst xs) ∧ atI xs i = some v ∧ Q v H
def rIxU : R2 := fun x y H Q => ∃ p xs i v, x = .ref p ∧ y = .int i ∧ H p = some (.tup xs) ∧ atI xs i = some v ∧ Q v H
section
variable {X : Cx}
theorem IxR.mono {r r' : R2} (h : IxR X r) (m : ∀ x y H Q, r' x y H Q → r x y H Q) : IxR X r' := fun va sl pins s σ H x y v u Q I rx ry q hs => h va sl pins s σ H x y v u Q I rx ry (m _ _ _ _ q) hs
theorem ix_M : IxR X rIxM := ix_list.mono fun x y H Q ⟨p, xs, i, v, e1, e2, h, a, q⟩ => ⟨p, xs, i, v, e1, e2, SqL.of h, a, q⟩
theorem ix_U : IxR X rIxU := ix_tup.mono fun x y H Q ⟨p, xs, i, v, e1, e2, h, a, q⟩ => ⟨p, xs, i, v, e1, e2, SqT.of h, a, q⟩
theorem CallR.mono {f : Value} {r r' : List V → Hp → VK → Prop} (h : CallR X f r) (m : ∀ xs H Q, r' xs H Q → r xs H Q) : CallR X f r' := fun pins s σ H xs us Q I rx q => h pins s σ H xs us Q I rx (m _ _ _ q)
theorem call_lenM : CallR X (.builtin "len") (fun xs H Q => ∃ p ys, xs = [.ref p] ∧ H p = some (.lst ys) ∧ Q (.int ys.length) H) := call_len_seq.mono fun xs H Q ⟨p, ys, e, h, q⟩ => ⟨p, ys, e, .inl (SqL.of h), q⟩
theorem call_lenU : CallR X (.builtin "len") (fun xs H Q => ∃ p ys, xs = [.ref p] ∧ H p = some (.tup ys) ∧ Q (.int ys.length) H) := call_len_seq.mono fun xs H Q ⟨p, ys, e, h, q⟩ => ⟨p, ys, e, .inr (SqT.of h), q⟩
theorem call_lenS : CallR X (.builtin "len") (fun xs H Q => ∃ p ys, xs = [.ref p] ∧ SqL X.K H p ys ∧ Q (.int ys.length) H) := call_len_seq.mono fun xs H Q ⟨p, ys, e, h, q⟩ => ⟨p, ys, e, .inl h, q⟩
end
section
variable {H : Hp} {Q : VK}
theorem w_ixM {p : Addr} {i : Int} : rIxM (.ref p) (.int i) H Q = ∃ xs, H p = some (.lst xs) ∧ ∃ v, atI xs i = some v ∧ Q v H :=
  propext ⟨fun ⟨p', xs, i', v, e1, e2, h, a, q⟩ => by cases e1; cases e2; exact ⟨xs, h, v, a, q⟩, fun ⟨xs, h, v, a, q⟩ => ⟨p, xs, i, v, rfl, rfl, h, a, q⟩⟩
theorem w_ixU {p : Addr} {i : Int} : rIxU (.ref p) (.int i) H Q = ∃ xs, H p = some (.tup xs) ∧ ∃ v, atI xs i = some v ∧ Q v H :=
  propext ⟨fun ⟨p', xs, i', v, e1, e2, h, a, q⟩ => by cases e1; cases e2; exact ⟨xs, h, v, a, q⟩, fun ⟨xs, h, v, a, q⟩ => ⟨p, xs, i, v, rfl, rfl, h, a, q⟩⟩
theorem w_ixL {K : PySem.W.Frag} {p : Addr} {i : Int} : rIxL K (.ref p) (.int i) H Q = ∃ xs, SqL K H p xs ∧ ∃ v, atI xs i = some v ∧ Q v H :=
  propext ⟨fun ⟨p', xs, i', v, e1, e2, h, a, q⟩ => by cases e1; cases e2; exact ⟨xs, h, v, a, q⟩, fun ⟨xs, h, v, a, q⟩ => ⟨p, xs, i, v, rfl, rfl, h, a, q⟩⟩
theorem w_setL {p : Addr} {k : Int} {v : V} {R : Hp → Prop} : rSetL (.ref p) (.int k) v H R = ∃ xs, H p = some (.lst xs) ∧ ∃ j, ixN xs.length k = some j ∧ R (upd H p (.lst (xs.set j v))) :=
  propext ⟨fun ⟨p', xs, k', j, e1, e2, h, a, q⟩ => by cases e1; cases e2; exact ⟨xs, h, j, a, q⟩, fun ⟨xs, h, j, a, q⟩ => ⟨p, xs, k, j, rfl, rfl, h, a, q⟩⟩
end
theorem at_0 {α : Type} {a : α} {l : List α} : atI (a :: l) 0 = some a := atI_nat (j := 0) rfl
theorem at_1 {α : Type} {a b : α} {l : List α} : atI (a :: b :: l) 1 = some b := atI_nat (j := 1) rfl
theorem at_2 {α : Type} {a b c : α} {l : List α} : atI (a :: b :: c :: l) 2 = some c := atI_nat (j := 2) rfl
theorem at_3 {α : Type} {a b c d : α} {l : List α} : atI (a :: b :: c :: d :: l) 3 = some d := atI_nat (j := 3) rfl
theorem ixN_0 {n : Nat} : ixN (n + 1) 0 = some 0 := by unfold ixN; rw [if_pos (Int.le_refl 0), if_pos (by omega)]; rfl
theorem ixN_1 {n : Nat} : ixN (n + 1 + 1) 1 = some 1 := by unfold ixN; rw [if_pos (by decide), if_pos (by omega)]; rfl
theorem ixN_2 {n : Nat} : ixN (n + 1 + 1 + 1) 2 = some 2 := by unfold ixN; rw [if_pos (by decide), if_pos (by omega)]; rfl
section
variable {CX : CXT} {P : Program} {w : World} {K : PySem.W.Frag} {mg : Str → Option Value} {base : Heap} {N : List Str} {qual : Str} {scope : Scope} {f : Addr} {cd : Value} {A : Around} {outer : List Env} {s : Shared} {H : Hp} {E : XK}
theorem w_cxK : (cxOf CX P w K mg base N qual scope f cd A outer s H E).K = K := rfl
end
theorem le_size {n : Nat} (h : n ≤ 1000) : n ≤ sizeLine := Nat.le_of_lt (small1000 h)
theorem sl_1 : (0 + 1 ≤ sizeLine) = True := eq_true (le_size (by decide))
theorem sl_2 : (0 + 1 + 1 ≤ sizeLine) = True := eq_true (le_size (by decide))
theorem sl_3 : (0 + 1 + 1 + 1 ≤ sizeLine) = True := eq_true (le_size (by decide))
theorem sl_4 : (0 + 1 + 1 + 1 + 1 ≤ sizeLine) = True := eq_true (le_size (by decide))
theorem sl_5 : (0 + 1 + 1 + 1 + 1 + 1 ≤ sizeLine) = True := eq_true (le_size (by decide))
theorem sl_6 : (0 + 1 + 1 + 1 + 1 + 1 + 1 ≤ sizeLine) = True := eq_true (le_size (by decide))
theorem sl_7 : (0 + 1 + 1 + 1 + 1 + 1 + 1 + 1 ≤ sizeLine) = True := eq_true (le_size (by decide))
theorem sl_8 : (0 + 1 + 1 + 1 + 1 + 1 + 1 + 1 + 1 ≤ sizeLine) = True := eq_true (le_size (by decide))
theorem sl_0 : (0 ≤ sizeLine) = True := eq_true (le_size (by decide))
theorem divq {g m : Int} (hg : 0 ≤ g) (hm : 0 < m) : 0 ≤ g / m := Int.ediv_nonneg hg (Int.le_of_lt hm)
theorem modq {g m : Int} (hm : 0 < m) : 0 ≤ g % m ∧ g % m < m := ⟨Int.emod_nonneg _ (by omega), Int.emod_lt_of_pos _ hm⟩
def ForR (lo : Int) (n : Nat) (g : TG) (tb : TS) (D : Ends) (σ : St) (H : Hp) : Prop := ∃ W : Nat → Nat → St → Hp → Prop, (∃ m, W 0 m σ H) ∧ ∀ i m σ H, W i m σ H →
  ((Itr lo n).stop i H ∧ D.nx σ H) ∨ ((Itr lo n).go i H ∧ ∃ N : St → Hp → Prop, (∀ σ' H', N σ' H' → ∃ m', m' < m ∧ W (i + 1) m' σ' H') ∧ ∀ x H', (Itr lo n).yld i H x H' → g x σ H' fun σ2 H2 => tb { D with nx := N, ct := N, bk := D.nx } σ2 H2)
def ForL (K : PySem.W.Frag) (a : Addr) (g : TG) (tb : TS) (D : Ends) (σ : St) (H : Hp) : Prop := ∃ W : Nat → Nat → St → Hp → Prop, (∃ m, W 0 m σ H) ∧ ∀ i m σ H, W i m σ H →
  ((Itl K a).stop i H ∧ D.nx σ H) ∨ ((Itl K a).go i H ∧ ∃ N : St → Hp → Prop, (∀ σ' H', N σ' H' → ∃ m', m' < m ∧ W (i + 1) m' σ' H') ∧ ∀ x H', (Itl K a).yld i H x H' → g x σ H' fun σ2 H2 => tb { D with nx := N, ct := N, bk := D.nx } σ2 H2)
def ForT (K : PySem.W.Frag) (a : Addr) (g : TG) (tb : TS) (D : Ends) (σ : St) (H : Hp) : Prop := ∃ W : Nat → Nat → St → Hp → Prop, (∃ m, W 0 m σ H) ∧ ∀ i m σ H, W i m σ H →
  ((Itt K a).stop i H ∧ D.nx σ H) ∨ ((Itt K a).go i H ∧ ∃ N : St → Hp → Prop, (∀ σ' H', N σ' H' → ∃ m', m' < m ∧ W (i + 1) m' σ' H') ∧ ∀ x H', (Itt K a).yld i H x H' → g x σ H' fun σ2 H2 => tb { D with nx := N, ct := N, bk := D.nx } σ2 H2)
section
variable {σ : St} {H : Hp} {D : Ends} {g : TG} {tb : TS} {K : PySem.W.Frag} {a : Addr}
theorem w_for1 {ta : TA} : tFor (iRng1 ta) g tb D σ H = (ta σ H fun vs H1 => ∃ j : Int, vs = [.int j] ∧ -(2 ^ 62) ≤ j ∧ j < 2 ^ 62 ∧ ForR 0 j.toNat g tb D σ H1) := rfl
theorem w_forL {tl : TE} : tFor (iList K tl) g tb D σ H = (tl σ H fun x H1 => ∃ a, x = .ref a ∧ (∃ xs, SqL K H1 a xs) ∧ ForL K a g tb D σ H1) := rfl
theorem w_forT {tl : TE} : tFor (iTup K tl) g tb D σ H = (tl σ H fun x H1 => ∃ a, x = .ref a ∧ (∃ xs, SqT K H1 a xs) ∧ ForT K a g tb D σ H1) := rfl
theorem forR {lo : Int} {n : Nat} (Pv : Nat → St → Hp → Prop) (h0 : Pv 0 σ H)
    (hs : ∀ i σ H (N : St → Hp → Prop), i < n → Pv i σ H → (∀ σ' H', Pv (i + 1) σ' H' → N σ' H') → g (.int (lo + i)) σ H fun σ2 H2 => tb { D with nx := N, ct := N, bk := D.nx } σ2 H2) (hd : ∀ σ H, Pv n σ H → D.nx σ H) : ForR lo n g tb D σ H :=
  for_range Pv h0 (fun i σ H h p => hs i σ H _ h p fun _ _ q => q) hd
theorem forL {xs : List V} (Pv : Nat → St → Hp → Prop) (h0 : Pv 0 σ H) (hl : ∀ i σ H, i ≤ xs.length → Pv i σ H → SqL K H a xs)
    (hs : ∀ i x σ H (N : St → Hp → Prop), xs[i]? = some x → Pv i σ H → (∀ σ' H', Pv (i + 1) σ' H' → N σ' H') → g x σ H fun σ2 H2 => tb { D with nx := N, ct := N, bk := D.nx } σ2 H2) (hd : ∀ σ H, Pv xs.length σ H → D.nx σ H) : ForL K a g tb D σ H := for_list Pv h0 hl (fun i x σ H h p => hs i x σ H _ h p fun _ _ q => q) hd
end
theorem r2 {r : Int} (h0 : 0 ≤ r) (h1 : r < 2) : r = 0 ∨ r = 1 := by omega
theorem r3 {r : Int} (h0 : 0 ≤ r) (h1 : r < 3) : r = 0 ∨ r = 1 ∨ r = 2 := by omega
theorem r4 {r : Int} (h0 : 0 ≤ r) (h1 : r < 4) : r = 0 ∨ r = 1 ∨ r = 2 ∨ r = 3 := by omega
theorem mid_of {t u : TS} {D : Ends} {σ : St} {H : Hp} (M : St → Hp → Prop) (h1 : ∀ N : St → Hp → Prop, (∀ σ H, M σ H → N σ H) → t { D with nx := N } σ H) (h2 : ∀ σ H, M σ H → u D σ H) : tMid t u D σ H := ⟨M, h1 M fun _ _ q => q, h2⟩
section
variable {K : PySem.W.Frag} {H : Hp} {Q : VK}
theorem isI_mk {x : V} {T : String} {t : Value} {b : Bool} (ty : TyOf K H x t) (u : ∀ t', TyOf K H x t' → t' = t) (k : PySem.W.kitOne K t (.type T) = some b) : rIsI K [x, .ty T] H Q = Q (.bl b) H :=
  propext ⟨fun ⟨x', T', t', b', e, ty', k', q⟩ => by
    cases e
    rw [u _ ty', k] at k'
    cases k'
    exact q, fun q => ⟨x, T, t, b, rfl, ty, k, q⟩⟩
theorem kit_non_bool : PySem.W.kitOne K (.type "NoneType") (.type "bool") = some false := by first | rfl | decide +kernel
theorem kit_str_bool : PySem.W.kitOne K (.type "str") (.type "bool") = some false := by first | rfl | decide +kernel
theorem w_isI_ii {i : Int} : rIsI K [.int i, .ty "int"] H Q = Q (.bl true) H := isI_mk (.int i) (fun _ h => by cases h; rfl) (kit_same _)
theorem w_isI_ib {i : Int} : rIsI K [.int i, .ty "bool"] H Q = Q (.bl false) H := isI_mk (.int i) (fun _ h => by cases h; rfl) kit_int_bool
theorem w_isI_bi {i : Bool} : rIsI K [.bl i, .ty "int"] H Q = Q (.bl true) H := isI_mk (.bl i) (fun _ h => by cases h; rfl) kit_bool_int
theorem w_isI_bb {i : Bool} : rIsI K [.bl i, .ty "bool"] H Q = Q (.bl true) H := isI_mk (.bl i) (fun _ h => by cases h; rfl) (kit_same _)
theorem w_isI_ni : rIsI K [.non, .ty "int"] H Q = Q (.bl false) H := isI_mk .non (fun _ h => by cases h; rfl) kit_non_int
theorem w_isI_nb : rIsI K [.non, .ty "bool"] H Q = Q (.bl false) H := isI_mk .non (fun _ h => by cases h; rfl) kit_non_bool
theorem w_isI_si {x : Str} : rIsI K [.str x, .ty "int"] H Q = Q (.bl false) H := isI_mk (.str x) (fun _ h => by cases h; rfl) kit_str_int
theorem w_isI_sb {x : Str} : rIsI K [.str x, .ty "bool"] H Q = Q (.bl false) H := isI_mk (.str x) (fun _ h => by cases h; rfl) kit_str_bool
end
theorem pow_pos2 (k : Nat) : (0 : Int) < 2 ^ k := Int.pow_pos (by decide)
end L2
set_option Elab.async false
set_option linter.all false
set_option maxRecDepth 100000
set_option maxHeartbeats 1000000
namespace L2
open PySem PySem.Spec PyProof.Rows
def closOf (scope : Scope) (env : Env) : List (Str × Addr) := (scope.names.filterMap fun x => if x.2 == .free then (env.cells.lookup x.1).map fun c => (x.1, c) else none).reverse
theorem closureFor_ok {scope : Scope} {env : Env} (h : ∀ x ∈ scope.names, x.2 = .free → ∃ c, env.cells.lookup x.1 = some c) : closureFor scope env = pure (closOf scope env) := by
  unfold closureFor closOf
  have all : ∀ (l : List (Str × NameKind)) (acc : List (Str × Addr)), (∀ x ∈ l, x.2 = .free → ∃ c, env.cells.lookup x.1 = some c) →
      (forIn l acc fun x r => (match x with | (name, kind) => if (kind == .free) = true then do let a ← cellOf env name; pure (ForInStep.yield ((name, a) :: r)) else pure (ForInStep.yield r) : Sem (ForInStep (List (Str × Addr))))) =
        pure ((l.filterMap fun x => if x.2 == .free then (env.cells.lookup x.1).map fun c => (x.1, c) else none).reverse ++ acc) := by
    intro l
    induction l with
    | nil => intro acc _; simp
    | cons x r ih =>
      intro acc hx
      obtain ⟨n, k⟩ := x
      have hr : ∀ y ∈ r, y.2 = .free → ∃ c, env.cells.lookup y.1 = some c := fun y hy => hx y (List.mem_cons_of_mem _ hy)
      by_cases hk : k = .free
      · subst hk
        obtain ⟨c, hc⟩ := hx (n, .free) List.mem_cons_self rfl
        have e1 : cellOf env n = pure c := by unfold cellOf; rw [show env.cells.lookup n = some c from hc]
        simp only [List.forIn_cons, beq_self_eq_true, if_true, e1, pure_bind, List.filterMap_cons]
        rw [ih _ hr]
        simp [show env.cells.lookup n = some c from hc]
      · have hb : (k == NameKind.free) = false := by simpa using hk
        simp only [List.forIn_cons, hb, Bool.false_eq_true, if_false, pure_bind, List.filterMap_cons]
        rw [ih _ hr]
  have := all scope.names [] h
  rw [List.append_nil] at this
  simp only [bind_pure]
  first | exact this | (rw [this]) | (simpa using this)
theorem mem_clos {scope : Scope} {env : Env} {x : Str} {c : Addr} (h : (closOf scope env).lookup x = some c) : env.cells.lookup x = some c := by
  have m := PySem.mem_of_lookup h
  unfold closOf at m
  rw [List.mem_reverse, List.mem_filterMap] at m
  obtain ⟨y, hy, e⟩ := m
  split at e
  · cases q : env.cells.lookup y.1 with
    | none => rw [q] at e; cases e
    | some d =>
      rw [q] at e
      simp only [Option.map_some, Option.some.injEq, Prod.mk.injEq] at e
      rw [← e.1, q, e.2]
  · cases e
theorem lookup_mem {α : Type} : ∀ {l : List (Str × α)} {x : Str} {c : α}, (x, c) ∈ l → ∃ d, l.lookup x = some d
  | (k, v) :: r, x, c, h => by
    rw [List.lookup_cons]
    cases hb : x == k with
    | true => exact ⟨v, rfl⟩
    | false =>
      rcases List.mem_cons.mp h with e | e
      · injection e with e1 e2
        subst e1
        simp at hb
      · exact lookup_mem e
theorem clos_has {scope : Scope} {env : Env} {x : Str} {c : Addr} (h : (x, NameKind.free) ∈ scope.names) (hc : env.cells.lookup x = some c) : (closOf scope env).lookup x = some c := by
  have m : (x, c) ∈ closOf scope env := by
    unfold closOf
    rw [List.mem_reverse, List.mem_filterMap]
    exact ⟨(x, .free), h, by simp [hc]⟩
  obtain ⟨d, hd⟩ := lookup_mem m
  have := mem_clos hd
  rw [hc] at this
  rw [hd, ← this]
theorem relabel_lookup {env : Env} : ∀ {names : List (Str × NameKind)} {x : Str} {k : NameKind},
    (names.map fun (n, k) => if (k == NameKind.free && env.scope.kind == .function && env.kindOf n == some .cell) then (n, NameKind.cell) else (n, k)).lookup x = some k →
    ∃ k0, names.lookup x = some k0 ∧ (k0 = k ∨ (k0 = .free ∧ k = .cell))
  | [], _, _, h => by simp at h
  | (n, k) :: r, x, k', h => by
    simp only [List.map_cons] at h
    by_cases hc : (k == NameKind.free && env.scope.kind == .function && env.kindOf n == some .cell) = true
    · rw [if_pos hc, List.lookup_cons] at h
      rw [List.lookup_cons]
      cases hb : x == n with
      | true =>
        rw [hb] at h
        simp only [Option.some.injEq] at h
        refine ⟨k, rfl, .inr ⟨?_, h.symm⟩⟩
        simp only [Bool.and_eq_true, beq_iff_eq] at hc
        exact hc.1.1
      | false =>
        rw [hb] at h
        exact relabel_lookup h
    · rw [if_neg hc, List.lookup_cons] at h
      rw [List.lookup_cons]
      cases hb : x == n with
      | true =>
        rw [hb] at h
        simp only [Option.some.injEq] at h
        exact ⟨k, rfl, .inl h⟩
      | false =>
        rw [hb] at h
        exact relabel_lookup h
theorem codeAny_compLoop_gen {prog : Program} {w : World} {A : Around} {R : Result → Shared → Prop} {s : Shared} {elt target iter : Expr} {ifs : List Expr} {scope : Scope} {pos : Pos} {it acc : Value} {env : Env} (I : Nat → Shared → Prop)
    (turn : ∀ n s, I n s → wpAny (model prog w) A (pyNext it) (fun r s₁ => match r with
      | none => R (.ok .next) s₁
      | some v => wpAny (model prog w) A (letOwnedTupleGo target it v) (fun _ s₁' => wpAny (model prog w) A (assign target env v) (fun _ s₂ =>
          wpAny (model prog w) A (forIn ifs true fun c r => if r = true then do let ok ← isTrue c env (eval c env); pure (ForInStep.yield ok) else pure (ForInStep.yield r)) (fun ok s₃ =>
            if ok = true then wpAny (model prog w) A (eval elt env) (fun x s₄ =>
              wpAny (model prog w) A (call (.builtin "list.append") [acc, x]) (fun _ s₅ => ∃ m, m < n ∧ I m s₅) (fun _ _ => False) s₄) (fun _ _ => False) s₃
            else ∃ m, m < n ∧ I m s₃) (fun _ _ => False) s₂) (fun _ _ => False) s₁') (fun _ _ => False) s₁) (fun _ _ => False) s)
    (n : Nat) (h : I n s) :
    codeAny (model prog w) A (.compLoop (.ListComp elt [⟨target, iter, ifs, 0⟩] scope pos) 0 it acc env) R s := by
  refine codeAny_loop rfl I (fun n s hI => ?_) n h
  show wpAny _ A ((compTurn (.ListComp elt [⟨target, iter, ifs, 0⟩] scope pos) 0 it acc env).onRaise (fun x => do noteFrame x env; theTreesLotGoes x)) _ _ s
  refine wpAny_noted ?_
  rw [compTurn_list]
  refine wpAny_bind (wpAny_standAt (wpAny_bind (wpAny_mono (turn n s hI) (fun r s₁ h₁ => ?_) fun _ _ h' => h'.elim)))
  cases r with
  | none => exact wpAny_pure h₁
  | some v =>
    refine wpAny_bind (wpAny_mono h₁ (fun _ s₁' h₁' => ?_) fun _ _ h' => h'.elim)
    refine wpAny_bind (wpAny_mono h₁' (fun _ s₂ h₂ => wpAny_bind (wpAny_mono h₂ (fun ok s₃ h₃ => ?_) fun _ _ h' => h'.elim)) fun _ _ h' => h'.elim)
    cases ok with
    | false => exact wpAny_pure ⟨rfl, h₃⟩
    | true =>
      exact wpAny_bind (wpAny_bind (wpAny_mono h₃ (fun x s₄ h₄ => wpAny_bind (wpAny_mono h₄ (fun _ s₅ h₅ => wpAny_pure (wpAny_pure ⟨rfl, h₅⟩)) fun _ _ h' => h'.elim)) fun _ _ h' => h'.elim))
def PN (X : Cx) (ifs : List Expr) (t : TT) : Prop :=
  ∀ (pins : List (Addr × Obj)) (s : Shared) (σ : St) (H : Hp) (Q : Bool → Hp → Prop), Inv X pins σ H s → t σ H Q →
    wpAny (model X.prog X.w) X.A (forIn ifs true fun c r => if r = true then do let ok ← isTrue c X.env (eval c X.env); pure (ForInStep.yield ok) else pure (ForInStep.yield r)) (TP X pins σ Q) X.xe s
def tYes : TT := fun _ H Q => Q true H
section
variable {X : Cx}
theorem pn_nil : PN X [] tYes := fun _ _ σ H Q I h => wpAny_pure ⟨H, I, h⟩
theorem pn_one {c : Expr} {t : TT} (h : PT X c t) : PN X [c] t := by
  intro pins s σ H Q I q
  refine PySem.wpAny_tests_one (h pins s σ H Q I q)
end
def compCx (X : Cx) (N : List Str) (scope : Scope) (C : Addr) (s : Shared) (H : Hp) (fp : List Addr) : Cx :=
  { X with N := N, s₀ := s, H₀ := H, env := compEnvC scope (closOf scope X.env) C X.env, outer := X.stack, stack := X.stack, ex := fp, fn := fun _ => false, pn := [], xe := fun _ _ => False }
structure CompBody (X : Cx) (tg : Expr) (ifs : List Expr) (elt : Expr) (g : TG) (tt : TT) (te : TE) : Prop where
  tg : PG X tg g
  tt : PN X ifs tt
  te : PE X elt te
def scB (sc xsc : Scope) : Bool := (sc.kind == .function) && sc.names.all fun x => (x.2 != .cell) && (x.2 != .local || sc.names.lookup x.1 == some .local) && (x.2 != .free || (xsc.names.lookup x.1 == some .cell) || (xsc.names.lookup x.1 == some .free))
def capB (cs : List Nat) (ns XN : List Str) (sc xsc : Scope) : Bool := (cs.zip ns).all fun p => (XN[p.1]? == some p.2) && (sc.names.lookup p.2 == some .free) && (xsc.names.lookup p.2 != some .local)
def capSt (nt : Nat) (cs : List Nat) (σ : St) : St := List.replicate nt none ++ cs.map fun c => (σ[c]?).join
def tComp (wi : TI) (nt : Nat) (cs : List Nat) (g : TG) (tt : TT) (te : TE) : TE := fun σ H Q => wi σ H fun J H1 => ∀ acc, H1 acc = none →
  ∃ W : Nat → Nat → List V → St → Hp → Prop, (∃ m, W 0 m [] (capSt nt cs σ) (upd H1 acc (.lst []))) ∧ ∀ i m ys σ' H', W i m ys σ' H' → H' acc = some (.lst ys) ∧
    ((J.stop i H' ∧ Q (.ref acc) H') ∨ (J.go i H' ∧ ys.length < sizeLine ∧ ∃ N : List V → St → Hp → Prop, (∀ zs σ2 H2, N zs σ2 H2 → ∃ m', m' < m ∧ W (i + 1) m' zs σ2 H2) ∧
      ∀ x H2, J.yld i H' x H2 → g x σ' H2 fun σ3 H3 => tt σ3 H3 fun b H4 => if b = true then te σ3 H4 fun y H5 => H5 acc = some (.lst ys) ∧ N (ys ++ [y]) σ3 (upd H5 acc (.lst (ys ++ [y]))) else N ys σ3 H4))
section
variable {X : Cx}
theorem compCx_inv {pins : List (Addr × Obj)} {σ : St} {H : Hp} {s : Shared} {N : List Str} {scope : Scope} {nt : Nat} {cs : List Nat} {fp : List Addr} {h1 : Heap} {tk : Nat} (I : Inv X pins σ H s)
    (hsc : scB scope X.env.scope = true) (hcap : capB cs (N.drop nt) X.N scope X.env.scope = true) (hlen : N.length = nt + cs.length)
    (hf : ∀ b ∈ fp, FpOk X pins H b) (hfl : ∀ b ∈ fp, b < s.heap.objs.size) (hn : h1.Ns s.heap.objs.size fun _ => none) (hk : ∀ b o, s.heap.get? b = some o → h1.get? b = some o) :
    Inv (compCx X N scope s.heap.objs.size s H fp) [] (capSt nt cs σ) H { s with heap := h1, toks := tk } := by
  unfold scB at hsc
  rw [Bool.and_eq_true] at hsc
  obtain ⟨hkd, hall⟩ := hsc
  have hkd : scope.kind = .function := by simpa using hkd
  rw [List.all_eq_true] at hall
  have nocell : ∀ x ∈ scope.names, x.2 ≠ .cell := fun x hx e => by have := hall x hx; rw [e] at this; simp at this
  have free2 : ∀ x, (x, NameKind.free) ∈ scope.names → X.env.kindOf x = some .cell ∨ X.env.kindOf x = some .free := fun x hx => by
    have := hall _ hx
    simp only [bne_self_eq_false, Bool.false_or, Bool.and_eq_true, Bool.or_eq_true, beq_iff_eq] at this
    exact this.2
  have kinds : ∀ x, ((compCx X N scope s.heap.objs.size s H fp).env.kindOf x = some .cell ∨ (compCx X N scope s.heap.objs.size s H fp).env.kindOf x = some .free) → (x, NameKind.free) ∈ scope.names := fun x hx => by
    have q : ∃ k, (relabel scope X.env).names.lookup x = some k ∧ (k = .cell ∨ k = .free) := by
      rcases hx with e | e
      · exact ⟨_, e, .inl rfl⟩
      · exact ⟨_, e, .inr rfl⟩
    obtain ⟨k, e, hk'⟩ := q
    obtain ⟨k0, e0, r⟩ := relabel_lookup e
    have m := PySem.mem_of_lookup e0
    rcases r with r | ⟨r, _⟩
    · subst r
      rcases hk' with z | z
      · exact absurd z (nocell _ m)
      · rw [z] at m; exact m
    · rw [r] at m; exact m
  have cellOf : ∀ x c, (closOf scope X.env).lookup x = some c → X.env.cells.lookup x = some c := fun x c e => mem_clos e
  have clt : ∀ x c, X.env.cells.lookup x = some c → c < s.heap.objs.size := fun x c e => by
    obtain ⟨v, q⟩ := I.cell x c e
    exact q.lt
  refine ⟨⟨I.ok.mod, ?_, I.ok.glob, I.ok.blt, Nat.le_refl _, ?_, ?_, ?_, I.ok.hd, I.ok.frames, .inl rfl, ?_, ?_, ?_, ?_, ?_, ?_, ?_⟩, rfl, I.bare, Un.kept hk, ⟨_, hn, ?_⟩, ?_, ?_, ?_, ?_, I.hok.kept hk, ?_⟩
  · show (relabel scope X.env).kind = _
    exact hkd
  · intro x y c e1 e2
    exact I.ok.inj x y c (cellOf x c e1) (cellOf y c e2)
  · intro x hx
    have m := kinds x hx
    obtain ⟨c, hc⟩ := I.ok.has x (free2 x m)
    exact ⟨c, clos_has m hc⟩
  · intro x c z
    cases z
  · intro b hb
    obtain ⟨f0, f1, f2, f3, f4, f5⟩ := hf b hb
    exact ⟨Nat.ne_of_lt (hfl b hb), fun x c e => f4 x c (cellOf x c e)⟩
  · intro b o e
    exact I.bs b o e
  · exact Nat.le_trans I.ok.bsz I.sz
  · intro b o e hb
    obtain ⟨f0, f1, f2, f3, f4, f5⟩ := hf b hb
    rcases f3 with z | z
    · exact I.ok.noex b o e z
    · exact absurd (Nat.lt_of_lt_of_le (Heap.lt_size (I.ok.bs b o e).1) z) (Nat.lt_irrefl _)
  · intro b hb hs
    obtain ⟨f0, f1, f2, f3, f4, f5⟩ := hf b hb
    rcases List.mem_cons.mp (I.stkSub b hs) with z | z
    · exact f1 z
    · exact f2 z
  · exact I.stack
  · exact I.stkFree
  · intro i x v e1 e2 _
    have hi : nt ≤ i := by
      refine Nat.le_of_not_lt fun z => ?_
      unfold capSt at e2
      rw [List.getElem?_append_left (by simpa using z), List.getElem?_replicate, if_pos z] at e2
      cases e2
    unfold capSt at e2
    rw [List.getElem?_append_right (by simpa using hi), List.length_replicate, List.getElem?_map] at e2
    cases q : cs[i - nt]? with
    | none => rw [q] at e2; cases e2
    | some c =>
      rw [q] at e2
      simp only [Option.map_some, Option.some.injEq] at e2
      have e3 : σ[c]? = some (some v) := by
        cases z : σ[c]? with
        | none => rw [z] at e2; cases e2
        | some o => rw [z] at e2; exact congrArg some e2
      unfold capB at hcap
      rw [List.all_eq_true] at hcap
      have e4 : (N.drop nt)[i - nt]? = some x := by
        rw [List.getElem?_drop, show nt + (i - nt) = i by omega]
        exact e1
      have m : (c, x) ∈ cs.zip (N.drop nt) := by
        have : (cs.zip (N.drop nt))[i - nt]? = some (c, x) := by rw [List.getElem?_zip_eq_some]; exact ⟨q, e4⟩
        exact List.mem_of_getElem? this
      have hm := hcap _ m
      simp only [Bool.and_eq_true, beq_iff_eq, bne_iff_ne, ne_eq] at hm
      obtain ⟨⟨h1', h2'⟩, h3'⟩ := hm
      have hlk : scope.names.lookup x = some .free := h2'
      have h2' : (x, NameKind.free) ∈ scope.names := PySem.mem_of_lookup hlk
      obtain ⟨mm, hmm, hl⟩ := I.loc
      have vis : Vis X.env.scope x := .inr (free2 x h2')
      obtain ⟨u, r, l⟩ := hl c x v h1' e3 vis
      rcases l with ⟨z, _⟩ | ⟨z, d, hd, hcell⟩
      · exact absurd z h3'
      · refine ⟨u, r, .inr ⟨?_, d, clos_has h2' hd, ?_⟩⟩
        · -- its kind in the block
          have isf : ∃ k, (relabel scope X.env).names.lookup x = some k := by
            have : ∃ k', (x, k') ∈ (relabel scope X.env).names := by
              unfold relabel
              by_cases cc : (X.env.scope.kind == .function && X.env.kindOf x == some .cell) = true
              · refine ⟨.cell, List.mem_map.mpr ⟨(x, .free), h2', ?_⟩⟩
                simp only [Bool.and_eq_true] at cc
                simp [cc.1, cc.2]
              · refine ⟨.free, List.mem_map.mpr ⟨(x, .free), h2', ?_⟩⟩
                simp only [Bool.and_eq_true] at cc
                have cc' : ¬ ((NameKind.free == NameKind.free && X.env.scope.kind == .function && X.env.kindOf x == some .cell) = true) := by
                  simp only [beq_self_eq_true, Bool.true_and, Bool.and_eq_true]
                  exact cc
                show (if (NameKind.free == NameKind.free && X.env.scope.kind == .function && X.env.kindOf x == some .cell) = true then (x, NameKind.cell) else (x, NameKind.free)) = (x, NameKind.free)
                rw [if_neg cc']
            obtain ⟨k', hk'⟩ := this
            exact lookup_mem hk'
          obtain ⟨k, ek⟩ := isf
          obtain ⟨k0, e0, rr⟩ := relabel_lookup ek
          rcases rr with rr | ⟨_, rr⟩
          · subst rr
            rw [hlk] at e0
            cases e0
            exact .inr ek
          · subst rr
            exact .inl ek
        · obtain ⟨o, ho, hd'⟩ := hcell
          exact ⟨o, hk _ _ ho, hd'⟩
  · intro x c e
    obtain ⟨v, o, ho, hd⟩ := I.cell x c (cellOf x c e)
    exact ⟨v, o, hk _ _ ho, hd⟩
  · exact I.hok.fresh (Nat.le_refl _)
  · intro x c e
    exact I.freeC x c (cellOf x c e)
  · intro p hp
    cases hp
  · show (capSt nt cs σ).length = N.length
    unfold capSt
    rw [List.length_append, List.length_replicate, List.length_map, hlen]
theorem un_same {fs ex : List Addr} {H H' : Hp} {h h1 h' : Heap} {C : Addr} (u : Un fs ex H H' h h1) (hs : Heap.SameBut C h1 h') (hC : h.objs.size ≤ C) : Un fs ex H H' h h' where
  keep := fun b o e n hb hx => (hs.2 b (Nat.ne_of_lt (Nat.lt_of_lt_of_le (Heap.lt_size e) hC))).trans (u.keep b o e n hb hx)
  slot := fun b o e n hb hx => by
    obtain ⟨sl, q⟩ := u.slot b o e n hb hx
    exact ⟨sl, (hs.2 b (Nat.ne_of_lt (Nat.lt_of_lt_of_le (Heap.lt_size e) hC))).trans q⟩
  free := u.free
  there := fun b o e hx => by
    obtain ⟨o', q⟩ := u.there b o e hx
    exact ⟨o', (hs.2 b (Nat.ne_of_lt (Nat.lt_of_lt_of_le (Heap.lt_size e) hC))).trans q⟩
  tups := u.tups
  frzs := u.frzs
  tbls := u.tbls
theorem hok_same {P : Program} {w : World} {H : Hp} {h h' : Heap} {C : Addr} (x : HOk P w H h) (hs : Heap.SameBut C h h') (hC : H C = none) : HOk P w H h' := fun b u e =>
  (x b u e).stay (fun c v hc q => (hs.2 c (fun z => by
    subst z
    rcases hc with z | z
    · subst z; rw [hC] at e; cases e
    · rw [hC] at z; cases z)).trans q) (fun _ q => q) fun _ _ q => q
theorem pe_comp0 {tg iter elt : Expr} {ifs : List Expr} {scope : Scope} {pos : Pos} {wi : TI} {N : List Str} {nt : Nat} {cs : List Nat} {g : TG} {tt : TT} {te : TE} (hc : X.calm = true) (hi : PI X tg iter wi)
    (hb : N.Nodup → ∀ (C : Addr) (s : Shared) (H : Hp) (fp : List Addr), CompBody (compCx X N scope C s H fp) tg ifs elt g tt te)
    (hnd : N.Nodup) (hsc : scB scope X.env.scope = true) (hcap : capB cs (N.drop nt) X.N scope X.env.scope = true) (hlen : N.length = nt + cs.length)
    (hs : ∀ x, foldedSetIterable iter X.env x = pure x) : PE X (.ListComp elt [⟨tg, iter, ifs, 0⟩] scope pos) (tComp wi nt cs g tt te) := by
  intro pins s σ H Q I h
  have hsc' := hsc
  unfold scB at hsc'
  rw [Bool.and_eq_true] at hsc'
  obtain ⟨hkd, hall⟩ := hsc'
  have hkd : scope.kind = .function := by simpa using hkd
  rw [List.all_eq_true] at hall
  have nocell : ∀ x ∈ scope.names, x.2 ≠ .cell := fun x hx e => by have := hall x hx; rw [e] at this; simp at this
  have hnames : ∀ x ∈ scope.names, x.2 = .local → scope.names.lookup x.1 = some .local := fun x hx e => by
    have := hall x hx
    rw [e] at this
    simp only [bne_self_eq_false, Bool.false_or, Bool.and_eq_true, beq_iff_eq] at this
    exact this.1.2
  have hclos : closureFor scope X.env = pure (closOf scope X.env) := closureFor_ok fun x hx e => by
    have := hall x hx
    rw [e] at this
    simp only [bne_self_eq_false, Bool.false_or, Bool.and_eq_true, Bool.or_eq_true, beq_iff_eq] at this
    exact I.ok.has x.1 this.2
  rw [eval_ListComp]
  refine wpAny_comprehension_free (use := none) rfl hs hclos hkd hnames (thn (hi pins s σ H _ I h) fun v s1 h1 => thn h1 fun itv s2 h2 => ?_)
  obtain ⟨it, fp, tn, J, H2, e, I2, T, st2, f2, hR⟩ := h2
  subst e
  refine wpAny_newObj_type (wpAny_newFunctionEnv nocell (by intro y hy; simp at hy) (fun h3 hn3 hs3 => ?_) hkd)
  have fr := I2.fresh
  have I3 : Inv X pins σ (upd H2 s2.heap.objs.size (.lst [])) { s2 with heap := s2.heap.push { cls := .type "list", data := .seq ([] : List Value).toArray }, toks := s2.toks } := I2.lnew .nil (le_size (by decide))
  obtain ⟨W, ⟨m0, w0⟩, turn⟩ := hR _ fr
  generalize hacc : s2.heap.objs.size = acc at *
  generalize hsx : ({ s2 with heap := s2.heap.push { cls := .type "list", data := .seq ([] : List Value).toArray }, toks := s2.toks } : Shared) = sx at *
  have hC : sx.heap.objs.size = acc + 1 := by rw [← hsx, ← hacc]; exact Heap.size_push _ _
  have fpl : ∀ b ∈ fp, b < acc := fun b hb => by
    obtain ⟨o, ho, _⟩ := T.obj _ _ st2 b hb
    rw [← hacc]
    exact Heap.lt_size ho
  have f3 : ∀ b ∈ fp, FpOk X pins (upd H2 acc (.lst [])) b := fun b hb => by
    obtain ⟨f0, f1⟩ := f2 b hb
    exact ⟨by rw [upd_ne (Nat.ne_of_lt (fpl b hb))]; exact f0, f1⟩
  have keep3 : ∀ b o, sx.heap.get? b = some o → h3.get? b = some o := fun b o e => by
    have hne : b ≠ sx.heap.objs.size := Nat.ne_of_lt (Heap.lt_size e)
    exact (hs3.2 b hne).trans (Heap.get?_push_of_some _ e)
  have IC : Inv (compCx X N scope sx.heap.objs.size sx (upd H2 acc (.lst [])) fp) [] (capSt nt cs σ) (upd H2 acc (.lst [])) { sx with heap := h3, toks := sx.toks + ([] : List (Str × Value)).length } :=
    compCx_inv I3 hsc hcap hlen f3 (fun b hb => by rw [hC]; exact Nat.lt_succ_of_lt (fpl b hb)) (by simpa using hn3) keep3
  have hn3' : H2 acc = none := fr
  generalize hXC : compCx X N scope sx.heap.objs.size sx (upd H2 acc (.lst [])) fp = XC at IC
  have ctxP : XC.prog = X.prog := by rw [← hXC]; rfl
  have ctxW : XC.w = X.w := by rw [← hXC]; rfl
  have ctxK : XC.K = X.K := by rw [← hXC]; rfl
  have ctxA : XC.A = X.A := by rw [← hXC]; rfl
  have ctxC : XC.calm = true := by rw [← hXC]; exact hc
  have ctxX : XC.xe = fun _ _ => False := by rw [← hXC]; rfl
  have ctxE : XC.env = compEnvC scope (closOf scope X.env) sx.heap.objs.size X.env := by rw [← hXC]; rfl
  have body : CompBody XC tg ifs elt g tt te := by rw [← hXC]; exact hb hnd _ _ _ _
  have st3 : tn 0 h3 := T.keep _ _ _ st2 fun b hb o e => keep3 b o (by rw [← hsx]; exact Heap.get?_push_of_some _ e)
  have stat : ∀ {H' : Hp}, (∀ b ∈ fp, H' b = none) → ∀ b ∈ fp, FpOk XC [] H' b := fun hn b hb => by
    obtain ⟨f0, f1, f2', f3', f4, f5⟩ := f3 b hb
    refine ⟨hn b hb, ?_, ?_, .inl (by rw [← hXC]; exact hb), fun x c e => ?_, fun p hp => ?_⟩
    · rw [ctxE]
      exact Nat.ne_of_lt (by rw [hC]; exact Nat.lt_succ_of_lt (fpl b hb))
    · rw [← hXC]
      intro z
      rcases List.mem_cons.mp (I3.stkSub b z) with z | z
      · exact f1 z
      · exact f2' z
    · rw [ctxE] at e
      exact f4 x c (mem_clos e)
    · rw [← hXC] at hp
      cases hp
  have fin : ∀ {σ' : St} {H' : Hp} {s' : Shared}, Inv XC [] σ' H' s' → Q (.ref acc) H' → compPost (model X.prog X.w) X.A X.xe none (EP X pins σ Q) (.ref acc) sx.heap.objs.size (.ok .next) s' := by
    intro σ' H' s' J' q
    obtain ⟨m, hm, _⟩ := J'.loc
    have hfree := J'.free
    rw [ctxE] at hm hfree
    refine ⟨m, hm, fun h' hs' => ⟨.ref acc, H', ?_, rfl, q⟩⟩
    have u := J'.base
    rw [← hXC] at u
    have ok := J'.hok
    rw [ctxP, ctxW] at ok
    have os := J'.os
    rw [← hXC] at os
    refine I3.call' (s' := { s' with heap := h' }) os (un_same u hs' (Nat.le_refl _)) (hok_same ok hs' hfree) J'.bare fun b hb => ?_
    obtain ⟨f0, f1, f2', f3', f4, f5⟩ := f3 b hb
    exact ⟨f3', f1, f4, f5⟩
  have loop : codeAny (model X.prog X.w) X.A (.compLoop (.ListComp elt [⟨tg, iter, ifs, 0⟩] scope pos) 0 (.ref it) (.ref acc) XC.env) (compPost (model X.prog X.w) X.A X.xe none (EP X pins σ Q) (.ref acc) sx.heap.objs.size)
      { sx with heap := h3, toks := sx.toks + ([] : List (Str × Value)).length } := by
    rw [← ctxP, ← ctxW, ← ctxA]
    refine codeAny_compLoop_gen (fun n s' => ∃ i ys σ' H', Inv XC [] σ' H' s' ∧ tn i s'.heap ∧ (∀ b ∈ fp, H' b = none) ∧ W i n ys σ' H') ?_ m0 ⟨0, [], _, _, IC, st3, fun b hb => (f3 b hb).1, w0⟩
    rintro n s3 ⟨i, ys, σ3, H3, I3', st3', fr3, w3⟩
    have T' := T
    rw [← ctxP, ← ctxW, ← ctxK] at T'
    obtain ⟨hacc3, alt⟩ := turn i n ys σ3 H3 w3
    rcases alt with ⟨stop, qn⟩ | ⟨go, hsz, NN, hNN, step⟩
    · refine thn (T'.done XC rfl rfl rfl ctxC i [] s3 σ3 H3 _ I3' (stat fr3) st3' stop) fun r s4 ⟨hr, I4⟩ => ?_
      subst hr
      rw [ctxP, ctxW, ctxA]
      exact fin I4 qn
    · refine thn (T'.item XC rfl rfl rfl ctxC i [] s3 σ3 H3 _ I3' (stat fr3) st3' go) fun r s4 ⟨u, hr, h4⟩ => ?_
      subst hr
      refine thn h4 fun _ s5 ⟨x, H5, I5, r5, y5, st5, fr5⟩ => ?_
      have I5' := I5.pinned (stat fr5) (T'.obj _ _ st5)
      have a1 := body.tg _ s5 σ3 H5 x u _ I5' r5 (step x H5 y5)
      rw [ctxX] at a1
      refine thn a1 fun _ s6 ⟨σ6, H6, I6, q6⟩ => ?_
      have a2 := body.tt _ s6 σ6 H6 _ I6 q6
      rw [ctxX] at a2
      refine thn a2 fun b s7 ⟨H7, I7, q7⟩ => ?_
      have again : ∀ {s8 : Shared} {σ7 : St} {H7 : Hp} {zs : List V}, Inv XC ([] ++ pinsAt fp s5.heap) σ7 H7 s8 → NN zs σ7 H7 → ∃ m, m < n ∧ ∃ i ys σ' H', Inv XC [] σ' H' s8 ∧ tn i s8.heap ∧ (∀ b ∈ fp, H' b = none) ∧ W i m ys σ' H' := fun {s8 σ7 H7 zs} I7 n7 => by
        obtain ⟨m', hm, w7⟩ := hNN zs σ7 H7 n7
        refine ⟨m', hm, i + 1, zs, σ7, H7, I7.unpinned, T'.keep _ _ _ st5 fun b hb o e => (I7.pin (b, o) (List.mem_append_right _ (List.mem_append_right _ (mem_pinsAt hb e)))).1, fun b hb => ?_, w7⟩
        obtain ⟨o, e, d⟩ := T'.obj _ _ st5 b hb
        exact (I7.pin (b, o) (List.mem_append_right _ (List.mem_append_right _ (mem_pinsAt hb e)))).2.1
      cases b with
      | false =>
        rw [if_neg Bool.false_ne_true] at q7 ⊢
        exact again I7 q7
      | true =>
        rw [if_pos rfl] at q7 ⊢
        have a3 := body.te _ s7 σ6 H7 _ I7 q7
        rw [ctxX] at a3
        refine thn a3 fun xv s8 ⟨y, H8, I8, r8, q8⟩ => ?_
        obtain ⟨hl8, n8⟩ := q8
        have a4 := mt_append (X := XC) _ s8 σ6 H8 (.ref acc) [y] (.ref acc) [xv] (fun _ H9 => NN (ys ++ [y]) σ6 H9) I8 rfl (.cons r8 .nil) ⟨acc, ys, y, rfl, rfl, hl8, hsz, n8⟩
        rw [ctxX] at a4
        refine thn a4 fun _ s9 ⟨_, H9, I9, _, q9⟩ => ?_
        exact again I9 q9
  rw [ctxE] at loop
  exact codeAny_compStart_list loop (T.self X.A 0 _ _ _ st3 loop)
theorem ps_setComp0 {y : Str} {py spos : Pos} {ix : Nat} {tg iter elt : Expr} {ifs : List Expr} {scope : Scope} {pos : Pos} {wi : TI} {N : List Str} {nt : Nat} {cs : List Nat} {g : TG} {tt : TT} {te : TE} (hc : X.calm = true) (hi : PI X tg iter wi)
    (hb : N.Nodup → ∀ (C : Addr) (s : Shared) (H : Hp) (fp : List Addr), CompBody (compCx X N scope C s H fp) tg ifs elt g tt te)
    (hnd : N.Nodup) (hsc : scB scope X.env.scope = true) (hcap : capB cs (N.drop nt) X.N scope X.env.scope = true) (hlen : N.length = nt + cs.length)
    (hs : ∀ x, foldedSetIterable iter X.env x = pure x) (hN : X.N.Nodup) (hix : X.N[ix]? = some y) (hy : Loc X.env.scope y) (hf : X.fn y = true ∨ X.env.scope.names.lookup y = some .local)
    (hsw : swapsWith (.ListComp elt [⟨tg, iter, ifs, 0⟩] scope pos) (some (.Name y py)) spos.line X.env = pure true) : PS X (.Assign [.Name y py] (.ListComp elt [⟨tg, iter, ifs, 0⟩] scope pos) spos) (tAsg (tComp wi nt cs g tt te) (gName ix)) := by
  intro pins s σ H D I h
  have hsc' := hsc
  unfold scB at hsc'
  rw [Bool.and_eq_true] at hsc'
  obtain ⟨hkd, hall⟩ := hsc'
  have hkd : scope.kind = .function := by simpa using hkd
  rw [List.all_eq_true] at hall
  have nocell : ∀ x ∈ scope.names, x.2 ≠ .cell := fun x hx e => by have := hall x hx; rw [e] at this; simp at this
  have hnames : ∀ x ∈ scope.names, x.2 = .local → scope.names.lookup x.1 = some .local := fun x hx e => by
    have := hall x hx
    rw [e] at this
    simp only [bne_self_eq_false, Bool.false_or, Bool.and_eq_true, beq_iff_eq] at this
    exact this.1.2
  have hclos : closureFor scope X.env = pure (closOf scope X.env) := closureFor_ok fun x hx e => by
    have := hall x hx
    rw [e] at this
    simp only [bne_self_eq_false, Bool.false_or, Bool.and_eq_true, Bool.or_eq_true, beq_iff_eq] at this
    exact I.ok.has x.1 this.2
  rw [exec_Assign_Name_used _ _ _ _ hsw]
  refine wpAny_bind (wpAny_standAt (wpAny_bind ?_))
  show wpAny _ X.A (do let _ ← comprehension (.ListComp elt [⟨tg, iter, ifs, 0⟩] scope pos) scope X.env _ (newList []) false (eval iter X.env) (some (assign (.Name y py) X.env))) _ _ s
  refine wpAny_bind (wpAny_mono (wpAny_comprehension_free (use := some (assign (.Name y py) X.env)) (Q := fun _ s' => SP X pins D .next s') rfl hs hclos hkd hnames
    (thn (hi pins s σ H _ I h) fun v s1 h1 => thn h1 fun itv s2 h2 => ?_)) (fun _ s' hq => wpAny_pure (wpAny_pure hq)) fun _ _ e => e)
  obtain ⟨it, fp, tn, J, H2, e, I2, T, st2, f2, hR⟩ := h2
  subst e
  refine wpAny_newObj_type (wpAny_newFunctionEnv nocell (by intro y hy; simp at hy) (fun h3 hn3 hs3 => ?_) hkd)
  have fr := I2.fresh
  have I3 : Inv X pins σ (upd H2 s2.heap.objs.size (.lst [])) { s2 with heap := s2.heap.push { cls := .type "list", data := .seq ([] : List Value).toArray }, toks := s2.toks } := I2.lnew .nil (le_size (by decide))
  obtain ⟨W, ⟨m0, w0⟩, turn⟩ := hR _ fr
  generalize hacc : s2.heap.objs.size = acc at *
  generalize hsx : ({ s2 with heap := s2.heap.push { cls := .type "list", data := .seq ([] : List Value).toArray }, toks := s2.toks } : Shared) = sx at *
  have hC : sx.heap.objs.size = acc + 1 := by rw [← hsx, ← hacc]; exact Heap.size_push _ _
  have fpl : ∀ b ∈ fp, b < acc := fun b hb => by
    obtain ⟨o, ho, _⟩ := T.obj _ _ st2 b hb
    rw [← hacc]
    exact Heap.lt_size ho
  have f3 : ∀ b ∈ fp, FpOk X pins (upd H2 acc (.lst [])) b := fun b hb => by
    obtain ⟨f0, f1⟩ := f2 b hb
    exact ⟨by rw [upd_ne (Nat.ne_of_lt (fpl b hb))]; exact f0, f1⟩
  have keep3 : ∀ b o, sx.heap.get? b = some o → h3.get? b = some o := fun b o e => by
    have hne : b ≠ sx.heap.objs.size := Nat.ne_of_lt (Heap.lt_size e)
    exact (hs3.2 b hne).trans (Heap.get?_push_of_some _ e)
  have IC : Inv (compCx X N scope sx.heap.objs.size sx (upd H2 acc (.lst [])) fp) [] (capSt nt cs σ) (upd H2 acc (.lst [])) { sx with heap := h3, toks := sx.toks + ([] : List (Str × Value)).length } :=
    compCx_inv I3 hsc hcap hlen f3 (fun b hb => by rw [hC]; exact Nat.lt_succ_of_lt (fpl b hb)) (by simpa using hn3) keep3
  have hn3' : H2 acc = none := fr
  generalize hXC : compCx X N scope sx.heap.objs.size sx (upd H2 acc (.lst [])) fp = XC at IC
  have ctxP : XC.prog = X.prog := by rw [← hXC]; rfl
  have ctxW : XC.w = X.w := by rw [← hXC]; rfl
  have ctxK : XC.K = X.K := by rw [← hXC]; rfl
  have ctxA : XC.A = X.A := by rw [← hXC]; rfl
  have ctxC : XC.calm = true := by rw [← hXC]; exact hc
  have ctxX : XC.xe = fun _ _ => False := by rw [← hXC]; rfl
  have ctxE : XC.env = compEnvC scope (closOf scope X.env) sx.heap.objs.size X.env := by rw [← hXC]; rfl
  have body : CompBody XC tg ifs elt g tt te := by rw [← hXC]; exact hb hnd _ _ _ _
  have st3 : tn 0 h3 := T.keep _ _ _ st2 fun b hb o e => keep3 b o (by rw [← hsx]; exact Heap.get?_push_of_some _ e)
  have stat : ∀ {H' : Hp}, (∀ b ∈ fp, H' b = none) → ∀ b ∈ fp, FpOk XC [] H' b := fun hn b hb => by
    obtain ⟨f0, f1, f2', f3', f4, f5⟩ := f3 b hb
    refine ⟨hn b hb, ?_, ?_, .inl (by rw [← hXC]; exact hb), fun x c e => ?_, fun p hp => ?_⟩
    · rw [ctxE]
      exact Nat.ne_of_lt (by rw [hC]; exact Nat.lt_succ_of_lt (fpl b hb))
    · rw [← hXC]
      intro z
      rcases List.mem_cons.mp (I3.stkSub b z) with z | z
      · exact f1 z
      · exact f2' z
    · rw [ctxE] at e
      exact f4 x c (mem_clos e)
    · rw [← hXC] at hp
      cases hp
  have fin : ∀ {σ' : St} {H' : Hp} {s' : Shared}, Inv XC [] σ' H' s' → D.nx (σ.set ix (some (.ref acc))) H' → compPost (model X.prog X.w) X.A X.xe (some (assign (.Name y py) X.env)) (fun _ s' => SP X pins D .next s') (.ref acc) sx.heap.objs.size (.ok .next) s' := by
    intro σ' H' s' J' q
    obtain ⟨m, hm, _⟩ := J'.loc
    have hfree := J'.free
    rw [ctxE] at hm hfree
    have u := J'.base
    rw [← hXC] at u
    have ok := J'.hok
    rw [ctxP, ctxW] at ok
    have os := J'.os
    rw [← hXC] at os
    have IX : Inv X pins σ H' s' := I3.call' os u ok J'.bare fun b hb => by
      obtain ⟨f0, f1, f2', f3', f4, f5⟩ := f3 b hb
      exact ⟨f3', f1, f4, f5⟩
    have hCL : sx.heap.objs.size ≠ X.env.locals := Nat.ne_of_gt I3.lt
    have hCc : ∀ x c, X.env.cells.lookup x = some c → c ≠ sx.heap.objs.size := fun x c e => by
      obtain ⟨v, z⟩ := I3.cell x c e
      exact Nat.ne_of_lt z.lt
    have hCp : ∀ p ∈ X.pn ++ pins, p.1 ≠ sx.heap.objs.size := fun p hp => Nat.ne_of_lt (Heap.lt_size (I3.pin p hp).1)
    show wpAny _ X.A (assign (.Name y py) X.env (.ref acc)) _ _ s'
    refine wpAny_assign_Name (store_ok2 IX hN hix hy (v := .ref acc) rfl (fun s'' I'' ⟨a, hsb, ha⟩ => ?_) hf)
    have hCa : sx.heap.objs.size ≠ a := fun z => by
      rcases ha with e | e
      · exact hCL (z.trans e)
      · exact hCc _ _ e z.symm
    refine ⟨m, hm.sameBut hsb hCa, fun h' hs' => ⟨_, H', ?_, q⟩⟩
    exact I''.turned (t' := s''.toks) (fun b o hb e => (hs'.2 b hb).trans e) hfree hCL (.inr I3.sz) hCc hCp
  have loop : codeAny (model X.prog X.w) X.A (.compLoop (.ListComp elt [⟨tg, iter, ifs, 0⟩] scope pos) 0 (.ref it) (.ref acc) XC.env) (compPost (model X.prog X.w) X.A X.xe (some (assign (.Name y py) X.env)) (fun _ s' => SP X pins D .next s') (.ref acc) sx.heap.objs.size)
      { sx with heap := h3, toks := sx.toks + ([] : List (Str × Value)).length } := by
    rw [← ctxP, ← ctxW, ← ctxA]
    refine codeAny_compLoop_gen (fun n s' => ∃ i ys σ' H', Inv XC [] σ' H' s' ∧ tn i s'.heap ∧ (∀ b ∈ fp, H' b = none) ∧ W i n ys σ' H') ?_ m0 ⟨0, [], _, _, IC, st3, fun b hb => (f3 b hb).1, w0⟩
    rintro n s3 ⟨i, ys, σ3, H3, I3', st3', fr3, w3⟩
    have T' := T
    rw [← ctxP, ← ctxW, ← ctxK] at T'
    obtain ⟨hacc3, alt⟩ := turn i n ys σ3 H3 w3
    rcases alt with ⟨stop, qn⟩ | ⟨go, hsz, NN, hNN, step⟩
    · refine thn (T'.done XC rfl rfl rfl ctxC i [] s3 σ3 H3 _ I3' (stat fr3) st3' stop) fun r s4 ⟨hr, I4⟩ => ?_
      subst hr
      rw [ctxP, ctxW, ctxA]
      exact fin I4 qn
    · refine thn (T'.item XC rfl rfl rfl ctxC i [] s3 σ3 H3 _ I3' (stat fr3) st3' go) fun r s4 ⟨u, hr, h4⟩ => ?_
      subst hr
      refine thn h4 fun _ s5 ⟨x, H5, I5, r5, y5, st5, fr5⟩ => ?_
      have I5' := I5.pinned (stat fr5) (T'.obj _ _ st5)
      have a1 := body.tg _ s5 σ3 H5 x u _ I5' r5 (step x H5 y5)
      rw [ctxX] at a1
      refine thn a1 fun _ s6 ⟨σ6, H6, I6, q6⟩ => ?_
      have a2 := body.tt _ s6 σ6 H6 _ I6 q6
      rw [ctxX] at a2
      refine thn a2 fun b s7 ⟨H7, I7, q7⟩ => ?_
      have again : ∀ {s8 : Shared} {σ7 : St} {H7 : Hp} {zs : List V}, Inv XC ([] ++ pinsAt fp s5.heap) σ7 H7 s8 → NN zs σ7 H7 → ∃ m, m < n ∧ ∃ i ys σ' H', Inv XC [] σ' H' s8 ∧ tn i s8.heap ∧ (∀ b ∈ fp, H' b = none) ∧ W i m ys σ' H' := fun {s8 σ7 H7 zs} I7 n7 => by
        obtain ⟨m', hm, w7⟩ := hNN zs σ7 H7 n7
        refine ⟨m', hm, i + 1, zs, σ7, H7, I7.unpinned, T'.keep _ _ _ st5 fun b hb o e => (I7.pin (b, o) (List.mem_append_right _ (List.mem_append_right _ (mem_pinsAt hb e)))).1, fun b hb => ?_, w7⟩
        obtain ⟨o, e, d⟩ := T'.obj _ _ st5 b hb
        exact (I7.pin (b, o) (List.mem_append_right _ (List.mem_append_right _ (mem_pinsAt hb e)))).2.1
      cases b with
      | false =>
        rw [if_neg Bool.false_ne_true] at q7 ⊢
        exact again I7 q7
      | true =>
        rw [if_pos rfl] at q7 ⊢
        have a3 := body.te _ s7 σ6 H7 _ I7 q7
        rw [ctxX] at a3
        refine thn a3 fun xv s8 ⟨y, H8, I8, r8, q8⟩ => ?_
        obtain ⟨hl8, n8⟩ := q8
        have a4 := mt_append (X := XC) _ s8 σ6 H8 (.ref acc) [y] (.ref acc) [xv] (fun _ H9 => NN (ys ++ [y]) σ6 H9) I8 rfl (.cons r8 .nil) ⟨acc, ys, y, rfl, rfl, hl8, hsz, n8⟩
        rw [ctxX] at a4
        refine thn a4 fun _ s9 ⟨_, H9, I9, _, q9⟩ => ?_
        exact again I9 q9
  rw [ctxE] at loop
  exact codeAny_compStart_list loop (T.self X.A 0 _ _ _ st3 loop)
end
end L2
set_option Elab.async false
set_option linter.all false
set_option maxRecDepth 100000
set_option maxHeartbeats 1000000
namespace L2
open PySem PySem.Spec PyProof.Rows
inductive Dt where
  | f (x : V)
  | l (xs : List Dt)
  | t (xs : List Dt)
mutual
def Is (K : PySem.W.Frag) (H : Hp) (x : V) : Dt → Prop
  | .f y => x = y ∧ flatV y = true
  | .l ds => ∃ p xs, x = .ref p ∧ SqL K H p xs ∧ IsL K H xs ds
  | .t ds => ∃ p xs, x = .ref p ∧ SqT K H p xs ∧ IsL K H xs ds
def IsL (K : PySem.W.Frag) (H : Hp) (xs : List V) : List Dt → Prop
  | [] => xs = []
  | d :: ds => ∃ x r, xs = x :: r ∧ Is K H x d ∧ IsL K H r ds
end
mutual
def deq : Dt → Dt → Bool
  | .f x, .f y => eqV x y
  | .l xs, .l ys => deqL xs ys
  | .t xs, .t ys => deqL xs ys
  | _, _ => false
def deqL : List Dt → List Dt → Bool
  | [], [] => true
  | x :: xs, y :: ys => deq x y && deqL xs ys
  | _, _ => false
end
mutual
def dep : Dt → Nat
  | .f _ => 0
  | .l xs => depL xs + 1
  | .t xs => depL xs + 1
def depL : List Dt → Nat
  | [] => 0
  | d :: ds => max (dep d) (depL ds)
end
theorem IsL.len {K : PySem.W.Frag} {H : Hp} : ∀ {ds : List Dt} {xs : List V}, IsL K H xs ds → xs.length = ds.length
  | [], xs, h => by rw [IsL] at h; subst h; rfl
  | d :: ds, xs, h => by
    rw [IsL] at h
    obtain ⟨x, r, rfl, _, h⟩ := h
    rw [List.length_cons, List.length_cons, IsL.len h]
theorem IsL.get {K : PySem.W.Frag} {H : Hp} : ∀ {ds : List Dt} {xs : List V} {j : Nat} {x : V}, IsL K H xs ds → xs[j]? = some x → ∃ d, ds[j]? = some d ∧ Is K H x d
  | [], xs, j, x, h, e => by rw [IsL] at h; subst h; simp at e
  | d :: ds, xs, j, x, h, e => by
    rw [IsL] at h
    obtain ⟨y, r, rfl, hy, h⟩ := h
    cases j with
    | zero => simp at e; subst e; exact ⟨d, rfl, hy⟩
    | succ j => exact IsL.get (j := j) h (by simpa using e)
theorem depL_mem {ds : List Dt} : ∀ {d : Dt} {j : Nat}, ds[j]? = some d → dep d ≤ depL ds := by
  induction ds with
  | nil => intro d j e; simp at e
  | cons a r ih =>
    intro d j e
    rw [depL]
    cases j with
    | zero => simp at e; subst e; omega
    | succ j => have := ih (d := d) (j := j) (by simpa using e); omega
mutual
theorem deq_refl : ∀ (d : Dt) {K : PySem.W.Frag} {H : Hp} {x : V}, Is K H x d → deq d d = true
  | .f y, K, H, x, h => by
    rw [Is] at h
    rw [deq]
    have hy := h.2
    cases y <;> first | (simp [eqV]; done) | (exact absurd hy (by decide)) | (cases hy)
  | .l ds, K, H, x, h => by
    rw [Is] at h
    obtain ⟨p, xs, _, _, h⟩ := h
    rw [deq]
    exact deqL_refl ds h
  | .t ds, K, H, x, h => by
    rw [Is] at h
    obtain ⟨p, xs, _, _, h⟩ := h
    rw [deq]
    exact deqL_refl ds h
theorem deqL_refl : ∀ (ds : List Dt) {K : PySem.W.Frag} {H : Hp} {xs : List V}, IsL K H xs ds → deqL ds ds = true
  | [], _, _, _, _ => by rw [deqL]
  | d :: ds, K, H, xs, h => by
    rw [IsL] at h
    obtain ⟨y, r, _, hy, h⟩ := h
    rw [deqL, deq_refl d hy, deqL_refl ds h]
    rfl
end
theorem deqL_get : ∀ {ds es : List Dt}, deqL ds es = (decide (ds.length = es.length) && (List.range ds.length).all fun j => match ds[j]?, es[j]? with | some d, some e => deq d e | _, _ => false)
  | [], [] => by simp [deqL]
  | [], e :: es => by simp [deqL]
  | d :: ds, [] => by simp [deqL]
  | d :: ds, e :: es => by
    rw [deqL, deqL_get]
    have r : List.range (d :: ds).length = 0 :: (List.range ds.length).map (· + 1) := by rw [List.length_cons, List.range_succ_eq_map]
    rw [r, List.all_cons, List.all_map]
    simp only [List.getElem?_cons_zero, List.length_cons, Nat.add_right_cancel_iff]
    have c : ((fun j => match (d :: ds)[j]?, (e :: es)[j]? with | some d, some e => deq d e | _, _ => false) ∘ fun x => x + 1) = (fun j => match ds[j]?, es[j]? with | some d, some e => deq d e | _, _ => false) := by
      funext j
      simp
    rw [c]
    cases deq d e <;> cases decide (ds.length = es.length) <;> rfl
section
variable {X : Cx} {pins : List (Addr × Obj)} {σ : St} {H : Hp} {s : Shared}
mutual
theorem Is.inj : ∀ (d : Dt) {e : Dt} {x : V}, Inv X pins σ H s → Is X.K H x d → Is X.K H x e → (∀ p xs ys, SqL X.K H p xs → ¬ SqT X.K H p ys) → d = e
  | .f y, e, x, I, h, h', hk => by
    rw [Is] at h
    obtain ⟨rfl, hy⟩ := h
    cases e with
    | f z => rw [Is] at h'; rw [h'.1]
    | l ds => rw [Is] at h'; obtain ⟨p, xs, e, _⟩ := h'; subst e; cases hy
    | t ds => rw [Is] at h'; obtain ⟨p, xs, e, _⟩ := h'; subst e; cases hy
  | .l ds, e, x, I, h, h', hk => by
    rw [Is] at h
    obtain ⟨p, xs, rfl, hs, h⟩ := h
    cases e with
    | f z => rw [Is] at h'; obtain ⟨e, hz⟩ := h'; subst e; cases hz
    | l es =>
      rw [Is] at h'
      obtain ⟨q, ys, e, hs', h'⟩ := h'
      cases e
      rw [I.list_inj hs' hs] at h'
      rw [IsL.inj ds I h h' hk]
    | t es =>
      rw [Is] at h'
      obtain ⟨q, ys, e, hs', h'⟩ := h'
      cases e
      exact absurd hs' (hk _ _ _ hs)
  | .t ds, e, x, I, h, h', hk => by
    rw [Is] at h
    obtain ⟨p, xs, rfl, hs, h⟩ := h
    cases e with
    | f z => rw [Is] at h'; obtain ⟨e, hz⟩ := h'; subst e; cases hz
    | l es =>
      rw [Is] at h'
      obtain ⟨q, ys, e, hs', h'⟩ := h'
      cases e
      exact absurd hs (hk _ _ _ hs')
    | t es =>
      rw [Is] at h'
      obtain ⟨q, ys, e, hs', h'⟩ := h'
      cases e
      rw [I.tuple_inj hs' hs] at h'
      rw [IsL.inj ds I h h' hk]
theorem IsL.inj : ∀ (ds : List Dt) {es : List Dt} {xs : List V}, Inv X pins σ H s → IsL X.K H xs ds → IsL X.K H xs es → (∀ p xs ys, SqL X.K H p xs → ¬ SqT X.K H p ys) → ds = es
  | [], es, xs, I, h, h', hk => by
    rw [IsL] at h
    subst h
    cases es with
    | nil => rfl
    | cons e es => rw [IsL] at h'; obtain ⟨_, _, e, _⟩ := h'; cases e
  | d :: ds, es, xs, I, h, h', hk => by
    rw [IsL] at h
    obtain ⟨y, r, rfl, hy, h⟩ := h
    cases es with
    | nil => rw [IsL] at h'; cases h'
    | cons e es =>
      rw [IsL] at h'
      obtain ⟨y', r', e1, hy', h'⟩ := h'
      cases e1
      rw [Is.inj d I hy hy' hk, IsL.inj ds I h h' hk]
end
theorem Inv.apart (I : Inv X pins σ H s) : ∀ p xs ys, SqL X.K H p xs → ¬ SqT X.K H p ys := fun p xs ys h h' => by
  obtain ⟨its, _, ⟨o, n, e, c, _⟩, _⟩ := I.list h
  obtain ⟨its', _, ⟨o', e', c', _⟩, _⟩ := I.tuple h'
  rw [e] at e'
  cases e'
  rw [c] at c'
  exact absurd c' (by decide)
theorem eqAt_F {x : V} (e : Dt) {A : Around} {y : V} {u v : Value} (hu : A.units < cLine) (I : Inv X pins σ H s) (fx : flatV x = true) (hy : Is X.K H y e) (rx : RelV x u) (ry : RelV y v) : SeqAt.EqAt A s u v (deq (.f x) e) := by
  cases e with
  | f y' =>
    rw [Is] at hy
    obtain ⟨rfl, fy⟩ := hy
    rw [deq]
    exact eqAt_V rx ry fx fy
  | l ds =>
    rw [Is] at hy
    obtain ⟨p, ys, rfl, hs, _⟩ := hy
    cases ry
    obtain ⟨its, _, pl, _⟩ := I.list hs
    have hl := pl.isList
    rw [show deq (.f x) (.l ds) = false by rw [deq]; all_goals (intros; simp_all)]
    cases x with
    | non => cases rx; exact SeqAt.EqAt.none_list hl hu
    | bl b => cases rx; exact SeqAt.EqAt.bool_list b hl hu
    | int i => obtain ⟨t, rfl⟩ := rx; exact SeqAt.EqAt.int_list i t hl hu
    | str z => obtain ⟨t, rfl⟩ := rx; exact SeqAt.EqAt.str_list z t hl hu
    | _ => cases fx
  | t ds =>
    rw [Is] at hy
    obtain ⟨p, ys, rfl, hs, _⟩ := hy
    cases ry
    obtain ⟨its, _, pl, _⟩ := I.tuple hs
    have hl : s.heap.IsTuple p its.toArray := pl
    rw [show deq (.f x) (.t ds) = false by rw [deq]; all_goals (intros; simp_all)]
    cases x with
    | non => cases rx; exact SeqAt.EqAt.none_tuple hl hu
    | bl b => cases rx; exact SeqAt.EqAt.bool_tuple b hl hu
    | int i => obtain ⟨t, rfl⟩ := rx; exact SeqAt.EqAt.int_tuple i t hl hu
    | str z => obtain ⟨t, rfl⟩ := rx; exact SeqAt.EqAt.str_tuple z t hl hu
    | _ => cases fx
def deqAt (ds es : List Dt) (j : Nat) : Bool := match ds[j]?, es[j]? with | some d, some e => deq d e | _, _ => false
theorem elems {n : Nat} {A : Around} (ih : ∀ (d e : Dt) {A : Around} {x y : V} {u v : Value}, dep d ≤ n → A.units + n < cLine → Inv X pins σ H s → Is X.K H x d → Is X.K H y e → RelV x u → RelV y v → SeqAt.EqAt A s u v (deq d e)) (hu : A.units + (n + 1) < cLine) (I : Inv X pins σ H s)
    {ds es : List Dt} {xs ys : List V} {its its' : List Value} (hd : depL ds ≤ n) (hx : IsL X.K H xs ds) (hy : IsL X.K H ys es) (rx : Vals xs its) (ry : Vals ys its') :
    ∀ j (h1 : j < its.toArray.size) (h2 : j < its'.toArray.size), SeqAt.EqAt A.in1 s its.toArray[j] its'.toArray[j] (deqAt ds es j) := by
  intro j h1 h2
  have l1 := rx.length
  have l2 := ry.length
  have k1 : j < xs.length := by simpa [l1] using h1
  have k2 : j < ys.length := by simpa [l2] using h2
  obtain ⟨d, e1, q1⟩ := hx.get (List.getElem?_eq_getElem k1)
  obtain ⟨e, e2, q2⟩ := hy.get (List.getElem?_eq_getElem k2)
  obtain ⟨u, hu', ru⟩ := rx.get (List.getElem?_eq_getElem k1)
  obtain ⟨v, hv', rv⟩ := ry.get (List.getElem?_eq_getElem k2)
  have f1 : its.toArray[j] = u := by
    have : its[j]? = some its.toArray[j] := by simp
    rw [hu'] at this
    exact (Option.some.inj this).symm
  have f2 : its'.toArray[j] = v := by
    have : its'[j]? = some its'.toArray[j] := by simp
    rw [hv'] at this
    exact (Option.some.inj this).symm
  rw [f1, f2]
  unfold deqAt
  rw [e1, e2]
  exact ih d e (Nat.le_trans (depL_mem e1) hd) (by rw [Around.in1_units]; omega) I q1 q2 ru rv
theorem all_deqAt {ds es : List Dt} (h : ds.length = es.length) : (List.range ds.length).all (deqAt ds es) = deqL ds es := by
  rw [deqL_get, decide_eq_true h, Bool.true_and]
  rfl
theorem deqL_ne {ds es : List Dt} (h : ds.length ≠ es.length) : deqL ds es = false := by
  rw [deqL_get, decide_eq_false h, Bool.false_and]
theorem rcAt_D : ∀ (n : Nat) (d e : Dt) {A : Around} {x y : V} {u v : Value}, dep d ≤ n → A.units + n < cLine → Inv X pins σ H s → Is X.K H x d → Is X.K H y e → RelV x u → RelV y v → SeqAt.EqAt A s u v (deq d e) ∧ (∀ p, x = .ref p → SeqAt.RcAt A s u v (deq d e))
  | n, .f x', e, A, x, y, u, v, hn, hu, I, hx, hy, rx, ry => by
    rw [Is] at hx
    obtain ⟨rfl, fx⟩ := hx
    exact ⟨eqAt_F e (by omega) I fx hy rx ry, fun p e => by subst e; cases fx⟩
  | 0, .l ds, e, A, x, y, u, v, hn, hu, I, hx, hy, rx, ry => by rw [dep] at hn; omega
  | 0, .t ds, e, A, x, y, u, v, hn, hu, I, hx, hy, rx, ry => by rw [dep] at hn; omega
  | n + 1, .l ds, e, A, x, y, u, v, hn, hu, I, hx, hy, rx, ry => by
    rw [dep] at hn
    have hx0 := hx
    rw [Is] at hx
    obtain ⟨p, xs, rfl, hs, hxs⟩ := hx
    cases rx
    obtain ⟨its, rv, pl, _⟩ := I.list hs
    have hl := pl.isList
    have hu' : A.units < cLine := by omega
    have ih := fun (d e : Dt) {A : Around} {x y : V} {u v : Value} (a : dep d ≤ n) (b : A.units + n < cLine) (c : Inv X pins σ H s) (f : Is X.K H x d) (g : Is X.K H y e) (h : RelV x u) (i : RelV y v) => (rcAt_D n d e a b c f g h i).1
    cases e with
    | f y' =>
      rw [Is] at hy
      obtain ⟨rfl, fy⟩ := hy
      rw [show deq (.l ds) (.f y) = false by rw [deq]; all_goals (intros; simp_all)]
      cases y with
      | non => cases ry; exact ⟨SeqAt.EqAt.list_none hl hu', fun _ _ => SeqAt.RcAt.list_none hl hu'⟩
      | bl b => cases ry; exact ⟨SeqAt.EqAt.list_bool b hl hu', fun _ _ => SeqAt.RcAt.list_bool b hl hu'⟩
      | int i => obtain ⟨t, rfl⟩ := ry; exact ⟨SeqAt.EqAt.list_int i t hl hu', fun _ _ => SeqAt.RcAt.list_int i t hl hu'⟩
      | str z => obtain ⟨t, rfl⟩ := ry; exact ⟨SeqAt.EqAt.list_str z t hl hu', fun _ _ => SeqAt.RcAt.list_str z t hl hu'⟩
      | _ => cases fy
    | l es =>
      have hy0 := hy
      rw [Is] at hy
      obtain ⟨q, ys, rfl, hs', hys⟩ := hy
      cases ry
      obtain ⟨its', rv', pl', _⟩ := I.list hs'
      have hl' := pl'.isList
      have e1 : its.toArray.size = ds.length := by rw [List.size_toArray, ← rv.length, hxs.len]
      have e2 : its'.toArray.size = es.length := by rw [List.size_toArray, ← rv'.length, hys.len]
      have rc : SeqAt.RcAt A s (.ref p) (.ref q) (deq (.l ds) (.l es)) := by
        rw [deq]
        by_cases hz : ds.length = es.length
        · have := SeqAt.RcAt.lists hl hl' (by omega) hu' (elems ih hu I (by omega) hxs hys rv rv')
          rw [e1, all_deqAt hz] at this
          exact this
        · rw [deqL_ne hz]
          exact SeqAt.RcAt.lists_lengths hl hl' (by rw [bne_iff_ne]; omega) hu'
      refine ⟨?_, fun _ _ => rc⟩
      by_cases hpq : p = q
      · subst hpq
        have := Is.inj _ I hx0 hy0 I.apart
        rw [← this, deq_refl _ hx0]
        exact SeqAt.EqAt.same _
      · exact SeqAt.EqAt.of_refs hpq rc
    | t es =>
      rw [Is] at hy
      obtain ⟨q, ys, rfl, hs', hys⟩ := hy
      cases ry
      obtain ⟨its', rv', pl', _⟩ := I.tuple hs'
      have hl' : s.heap.IsTuple q its'.toArray := pl'
      rw [show deq (.l ds) (.t es) = false by rw [deq]; all_goals (intros; simp_all)]
      exact ⟨SeqAt.EqAt.list_tuple hl hl' hu', fun _ _ => SeqAt.RcAt.list_tuple hl hl' hu'⟩
  | n + 1, .t ds, e, A, x, y, u, v, hn, hu, I, hx, hy, rx, ry => by
    rw [dep] at hn
    have hx0 := hx
    rw [Is] at hx
    obtain ⟨p, xs, rfl, hs, hxs⟩ := hx
    cases rx
    obtain ⟨its, rv, pl, _⟩ := I.tuple hs
    have hl : s.heap.IsTuple p its.toArray := pl
    have hu' : A.units < cLine := by omega
    have ih := fun (d e : Dt) {A : Around} {x y : V} {u v : Value} (a : dep d ≤ n) (b : A.units + n < cLine) (c : Inv X pins σ H s) (f : Is X.K H x d) (g : Is X.K H y e) (h : RelV x u) (i : RelV y v) => (rcAt_D n d e a b c f g h i).1
    cases e with
    | f y' =>
      rw [Is] at hy
      obtain ⟨rfl, fy⟩ := hy
      rw [show deq (.t ds) (.f y) = false by rw [deq]; all_goals (intros; simp_all)]
      cases y with
      | non => cases ry; exact ⟨SeqAt.EqAt.tuple_none hl hu', fun _ _ => SeqAt.RcAt.tuple_none hl hu'⟩
      | bl b => cases ry; exact ⟨SeqAt.EqAt.tuple_bool b hl hu', fun _ _ => SeqAt.RcAt.tuple_bool b hl hu'⟩
      | int i => obtain ⟨t, rfl⟩ := ry; exact ⟨SeqAt.EqAt.tuple_int i t hl hu', fun _ _ => SeqAt.RcAt.tuple_int i t hl hu'⟩
      | str z => obtain ⟨t, rfl⟩ := ry; exact ⟨SeqAt.EqAt.tuple_str z t hl hu', fun _ _ => SeqAt.RcAt.tuple_str z t hl hu'⟩
      | _ => cases fy
    | l es =>
      rw [Is] at hy
      obtain ⟨q, ys, rfl, hs', hys⟩ := hy
      cases ry
      obtain ⟨its', rv', pl', _⟩ := I.list hs'
      have hl' := pl'.isList
      rw [show deq (.t ds) (.l es) = false by rw [deq]; all_goals (intros; simp_all)]
      exact ⟨SeqAt.EqAt.tuple_list hl hl' hu', fun _ _ => SeqAt.RcAt.tuple_list hl hl' hu'⟩
    | t es =>
      have hy0 := hy
      rw [Is] at hy
      obtain ⟨q, ys, rfl, hs', hys⟩ := hy
      cases ry
      obtain ⟨its', rv', pl', _⟩ := I.tuple hs'
      have hl' : s.heap.IsTuple q its'.toArray := pl'
      have e1 : its.toArray.size = ds.length := by rw [List.size_toArray, ← rv.length, hxs.len]
      have e2 : its'.toArray.size = es.length := by rw [List.size_toArray, ← rv'.length, hys.len]
      have rc : SeqAt.RcAt A s (.ref p) (.ref q) (deq (.t ds) (.t es)) := by
        rw [deq]
        have := SeqAt.RcAt.tuples hl hl' hu' (elems ih hu I (by omega) hxs hys rv rv')
        rw [e1, e2] at this
        by_cases hz : ds.length = es.length
        · rw [← hz, Nat.min_self, all_deqAt hz, beq_self_eq_true, Bool.and_true] at this
          exact this
        · rw [deqL_ne hz]
          have : (ds.length == es.length) = false := by simpa using hz
          simp_all
      refine ⟨?_, fun _ _ => rc⟩
      by_cases hpq : p = q
      · subst hpq
        have := Is.inj _ I hx0 hy0 I.apart
        rw [← this, deq_refl _ hx0]
        exact SeqAt.EqAt.same _
      · exact SeqAt.EqAt.of_refs hpq rc
end
def rEqD (K : PySem.W.Frag) : R2 := fun x y H Q => ∃ p d e, x = .ref p ∧ Is K H x d ∧ Is K H y e ∧ dep d ≤ 50 ∧ Q (.bl (deq d e)) H
def rNeD (K : PySem.W.Frag) : R2 := fun x y H Q => ∃ p d e, x = .ref p ∧ Is K H x d ∧ Is K H y e ∧ dep d ≤ 50 ∧ Q (.bl (!deq d e)) H
section
variable {X : Cx}
theorem op_eqD {k : Nat} (hr : Room k X.A) : OpR X (compareOp .Eq) (rEqD X.K) := by
  intro pins s σ H x y v u Q I rx ry h
  obtain ⟨p, d, e, rfl, hx, hy, hd, q⟩ := h
  have := (rcAt_D 50 d e (A := X.A) hd (by have := hr.units; omega) I hx hy rx ry).2 p rfl
  exact this X.prog X.w X.xe _ ⟨.bl _, H, I, rfl, q⟩
end
end L2
set_option Elab.async false
set_option linter.all false
set_option maxRecDepth 100000
set_option maxHeartbeats 1000000
namespace L2
open PySem PySem.Spec PyProof.Rows
section
variable {X : Cx} {pins : List (Addr × Obj)} {σ : St} {H : Hp} {s : Shared}
theorem ih50 (n : Nat) (d e : Dt) {A : Around} {x y : V} {u v : Value} (a : dep d ≤ n) (b : A.units + n < cLine) (c : Inv X pins σ H s) (f : Is X.K H x d) (g : Is X.K H y e) (h : RelV x u) (i : RelV y v) : SeqAt.EqAt A s u v (deq d e) := (rcAt_D n d e a b c f g h i).1
theorem neAt_D (n : Nat) (d e : Dt) {A : Around} {p : Addr} {y : V} {v : Value} (hn : dep d ≤ n + 1) (hu : A.units + (n + 1) < cLine) (I : Inv X pins σ H s) (hx : Is X.K H (.ref p) d) (hy : Is X.K H y e) (ry : RelV y v) : SeqAt.RcNeAt A s (.ref p) v (!deq d e) := by
  have hu' : A.units < cLine := by omega
  cases d with
  | f x => rw [Is] at hx; obtain ⟨e, hz⟩ := hx; subst e; cases hz
  | l ds =>
    rw [dep] at hn
    rw [Is] at hx
    obtain ⟨p', xs, e0, hs, hxs⟩ := hx
    cases e0
    obtain ⟨its, rv, pl, _⟩ := I.list hs
    have hl := pl.isList
    cases e with
    | f y' =>
      rw [Is] at hy
      obtain ⟨rfl, fy⟩ := hy
      rw [show deq (.l ds) (.f y) = false by rw [deq]; all_goals (intros; simp_all)]
      cases y with
      | non => cases ry; exact SeqAt.RcNeAt.list_none hl hu'
      | bl b => cases ry; exact SeqAt.RcNeAt.list_bool b hl hu'
      | int i => obtain ⟨t, rfl⟩ := ry; exact SeqAt.RcNeAt.list_int i t hl hu'
      | str z => obtain ⟨t, rfl⟩ := ry; exact SeqAt.RcNeAt.list_str z t hl hu'
      | _ => cases fy
    | l es =>
      rw [Is] at hy
      obtain ⟨q, ys, rfl, hs', hys⟩ := hy
      cases ry
      obtain ⟨its', rv', pl', _⟩ := I.list hs'
      have hl' := pl'.isList
      have e1 : its.toArray.size = ds.length := by rw [List.size_toArray, ← rv.length, hxs.len]
      have e2 : its'.toArray.size = es.length := by rw [List.size_toArray, ← rv'.length, hys.len]
      rw [deq]
      by_cases hz : ds.length = es.length
      · have := SeqAt.RcNeAt.lists hl hl' (by omega) hu' (elems (ih50 n) hu I (by omega) hxs hys rv rv')
        rw [e1, all_deqAt hz] at this
        exact this
      · rw [deqL_ne hz]
        exact SeqAt.RcNeAt.lists_lengths hl hl' (by rw [bne_iff_ne]; omega) hu'
    | t es =>
      rw [Is] at hy
      obtain ⟨q, ys, rfl, hs', hys⟩ := hy
      cases ry
      obtain ⟨its', rv', pl', _⟩ := I.tuple hs'
      have hl' : s.heap.IsTuple q its'.toArray := pl'
      rw [show deq (.l ds) (.t es) = false by rw [deq]; all_goals (intros; simp_all)]
      exact SeqAt.RcNeAt.list_tuple hl hl' hu'
  | t ds =>
    rw [dep] at hn
    rw [Is] at hx
    obtain ⟨p', xs, e0, hs, hxs⟩ := hx
    cases e0
    obtain ⟨its, rv, pl, _⟩ := I.tuple hs
    have hl : s.heap.IsTuple p its.toArray := pl
    cases e with
    | f y' =>
      rw [Is] at hy
      obtain ⟨rfl, fy⟩ := hy
      rw [show deq (.t ds) (.f y) = false by rw [deq]; all_goals (intros; simp_all)]
      cases y with
      | non => cases ry; exact SeqAt.RcNeAt.tuple_none hl hu'
      | bl b => cases ry; exact SeqAt.RcNeAt.tuple_bool b hl hu'
      | int i => obtain ⟨t, rfl⟩ := ry; exact SeqAt.RcNeAt.tuple_int i t hl hu'
      | str z => obtain ⟨t, rfl⟩ := ry; exact SeqAt.RcNeAt.tuple_str z t hl hu'
      | _ => cases fy
    | l es =>
      rw [Is] at hy
      obtain ⟨q, ys, rfl, hs', hys⟩ := hy
      cases ry
      obtain ⟨its', rv', pl', _⟩ := I.list hs'
      have hl' := pl'.isList
      rw [show deq (.t ds) (.l es) = false by rw [deq]; all_goals (intros; simp_all)]
      exact SeqAt.RcNeAt.tuple_list hl hl' hu'
    | t es =>
      rw [Is] at hy
      obtain ⟨q, ys, rfl, hs', hys⟩ := hy
      cases ry
      obtain ⟨its', rv', pl', _⟩ := I.tuple hs'
      have hl' : s.heap.IsTuple q its'.toArray := pl'
      have e1 : its.toArray.size = ds.length := by rw [List.size_toArray, ← rv.length, hxs.len]
      have e2 : its'.toArray.size = es.length := by rw [List.size_toArray, ← rv'.length, hys.len]
      rw [deq]
      have := SeqAt.RcNeAt.tuples hl hl' hu' (elems (ih50 n) hu I (by omega) hxs hys rv rv')
      rw [e1, e2] at this
      by_cases hz : ds.length = es.length
      · rw [← hz, Nat.min_self, all_deqAt hz, beq_self_eq_true, Bool.and_true] at this
        exact this
      · rw [deqL_ne hz]
        have : (ds.length == es.length) = false := by simpa using hz
        simp_all
end
section
variable {X : Cx}
theorem op_neD {k : Nat} (hr : Room k X.A) : OpR X (compareOp .NotEq) (rNeD X.K) := by
  intro pins s σ H x y v u Q I rx ry h
  obtain ⟨p, d, e, rfl, hx, hy, hd, q⟩ := h
  cases rx
  have := neAt_D 50 d e (A := X.A) (by omega) (by have := hr.units; omega) I hx hy ry
  exact this X.prog X.w X.xe _ ⟨.bl _, H, I, rfl, q⟩
end
theorem isL_flat {K : PySem.W.Frag} {H : Hp} : ∀ {xs : List V}, xs.all flatV = true → IsL K H xs (xs.map Dt.f)
  | [], _ => by rw [List.map_nil, IsL]
  | x :: r, h => by
    rw [List.all_cons, Bool.and_eq_true] at h
    rw [List.map_cons, IsL]
    exact ⟨x, r, rfl, by rw [Is]; exact ⟨rfl, h.1⟩, isL_flat h.2⟩
theorem is_lst {K : PySem.W.Frag} {H : Hp} {p : Addr} {xs : List V} (h : SqL K H p xs) (f : xs.all flatV = true) : Is K H (.ref p) (.l (xs.map Dt.f)) := by rw [Is]; exact ⟨p, xs, rfl, h, isL_flat f⟩
theorem is_tup {K : PySem.W.Frag} {H : Hp} {p : Addr} {xs : List V} (h : SqT K H p xs) (f : xs.all flatV = true) : Is K H (.ref p) (.t (xs.map Dt.f)) := by rw [Is]; exact ⟨p, xs, rfl, h, isL_flat f⟩
theorem depL_flat : ∀ {xs : List V}, depL (xs.map Dt.f) = 0
  | [] => by rw [List.map_nil, depL]
  | x :: r => by rw [List.map_cons, depL, depL_flat, dep]; rfl
theorem dep_l {xs : List V} : dep (.l (xs.map Dt.f)) = 1 := by rw [dep, depL_flat]
theorem dep_t {xs : List V} : dep (.t (xs.map Dt.f)) = 1 := by rw [dep, depL_flat]
theorem flat_ints (ns : List Int) : (ns.map V.int).all flatV = true := by rw [List.all_map]; simp [flatV]
theorem deqL_ints : ∀ (ns ms : List Int), deqL ((ns.map V.int).map Dt.f) ((ms.map V.int).map Dt.f) = decide (ns = ms)
  | [], [] => by simp [deqL]
  | [], m :: ms => by simp [deqL]
  | n :: ns, [] => by simp [deqL]
  | n :: ns, m :: ms => by
    rw [List.map_cons, List.map_cons, List.map_cons, List.map_cons, deqL, deqL_ints ns ms, deq]
    by_cases h1 : n = m <;> by_cases h2 : ns = ms <;> simp [eqV, h1, h2]
theorem deq_tints (ns ms : List Int) : deq (.t ((ns.map V.int).map Dt.f)) (.t ((ms.map V.int).map Dt.f)) = decide (ns = ms) := by rw [deq, deqL_ints]
theorem eqTI {K : PySem.W.Frag} {H : Hp} {p q : Addr} {ns ms : List Int} {Q : VK} (h1 : SqT K H p (ns.map V.int)) (h2 : SqT K H q (ms.map V.int)) (h : Q (.bl (decide (ns = ms))) H) : rEqD K (.ref p) (.ref q) H Q :=
  ⟨p, _, _, rfl, is_tup h1 (flat_ints _), is_tup h2 (flat_ints _), by rw [dep_t]; decide, by rw [deq_tints]; exact h⟩
def CompIt (J : It) (nt : Nat) (cs : List Nat) (g : TG) (tt : TT) (te : TE) (σ : St) (H1 : Hp) (Q : VK) : Prop := ∀ acc, H1 acc = none →
  ∃ W : Nat → Nat → List V → St → Hp → Prop, (∃ m, W 0 m [] (capSt nt cs σ) (upd H1 acc (.lst []))) ∧ ∀ i m ys σ' H', W i m ys σ' H' → H' acc = some (.lst ys) ∧
    ((J.stop i H' ∧ Q (.ref acc) H') ∨ (J.go i H' ∧ ys.length < sizeLine ∧ ∃ N : List V → St → Hp → Prop, (∀ zs σ2 H2, N zs σ2 H2 → ∃ m', m' < m ∧ W (i + 1) m' zs σ2 H2) ∧
      ∀ x H2, J.yld i H' x H2 → g x σ' H2 fun σ3 H3 => tt σ3 H3 fun b H4 => if b = true then te σ3 H4 fun y H5 => H5 acc = some (.lst ys) ∧ N (ys ++ [y]) σ3 (upd H5 acc (.lst (ys ++ [y]))) else N ys σ3 H4))
section
variable {K : PySem.W.Frag} {σ : St} {H : Hp} {Q : VK} {nt : Nat} {cs : List Nat} {g : TG} {tt : TT} {te : TE} {a : Addr}
theorem w_compL {tl : TE} : tComp (iList K tl) nt cs g tt te σ H Q = (tl σ H fun x H1 => ∃ a, x = .ref a ∧ (∃ xs, SqL K H1 a xs) ∧ CompIt (Itl K a) nt cs g tt te σ H1 Q) := rfl
theorem w_compT {tl : TE} : tComp (iTup K tl) nt cs g tt te σ H Q = (tl σ H fun x H1 => ∃ a, x = .ref a ∧ (∃ xs, SqT K H1 a xs) ∧ CompIt (Itt K a) nt cs g tt te σ H1 Q) := rfl
theorem w_comp1 {ta : TA} : tComp (iRng1 ta) nt cs g tt te σ H Q = (ta σ H fun vs H1 => ∃ j : Int, vs = [.int j] ∧ -(2 ^ 62) ≤ j ∧ j < 2 ^ 62 ∧ CompIt (Itr 0 j.toNat) nt cs g tt te σ H1 Q) := rfl
theorem w_yes {R : Bool → Hp → Prop} : tYes σ H R = R true H := rfl
def capV (cs : List Nat) (σ : St) : St := cs.map fun c => (σ[c]?).join
theorem comp_pure {J : It} {xs : List V} (f : V → Option V) (hz : xs.length ≤ sizeLine)
    (hJ : ∀ H', Same H H' → (∀ i, i < xs.length → J.go i H') ∧ (∀ i x H2, J.yld i H' x H2 → H2 = H' ∧ (i < xs.length → xs[i]? = some x)) ∧ J.stop xs.length H')
    (hb : ∀ x H' (R : Option V → Hp → Prop), x ∈ xs → Same H H' → R (f x) H' → tt (some x :: capV cs σ) H' fun b H4 => if b = true then te (some x :: capV cs σ) H4 fun y H5 => R (some y) H5 else R none H4)
    (hd : ∀ acc, H acc = none → Q (.ref acc) (upd H acc (.lst (xs.filterMap f)))) : CompIt J 1 cs (gName 0) tt te σ H Q := by
  intro acc hn
  have sm : ∀ ys, Same H (upd H acc (.lst ys)) := fun ys => same_new hn _
  refine ⟨fun i m ys σ' H' => m = xs.length - i ∧ i ≤ xs.length ∧ (∃ o, σ' = o :: capV cs σ) ∧ ys = (xs.take i).filterMap f ∧ H' = upd H acc (.lst ys), ⟨_, rfl, Nat.zero_le _, ⟨none, rfl⟩, by simp, rfl⟩, ?_⟩
  rintro i m ys σ' H' ⟨rfl, hi, ⟨o, rfl⟩, hys, rfl⟩
  refine ⟨upd_same, ?_⟩
  have hl : ys.length ≤ i := by
    rw [hys]
    exact Nat.le_trans (List.length_filterMap_le _ _) (by rw [List.length_take]; omega)
  by_cases hlt : i < xs.length
  · refine .inr ⟨(hJ _ (sm ys)).1 i hlt, by omega, fun zs σ2 H2 => (∃ o, σ2 = o :: capV cs σ) ∧ zs = (xs.take (i + 1)).filterMap f ∧ H2 = upd H acc (.lst zs), fun zs σ2 H2 ⟨q1, q2, q3⟩ => ⟨xs.length - (i + 1), by omega, rfl, hlt, q1, q2, q3⟩, fun x H2 y => ?_⟩
    obtain ⟨e, hx⟩ := (hJ _ (sm ys)).2.1 i x H2 y
    have hx := hx hlt
    subst e
    show tt (some x :: capV cs σ) _ _
    have tk : xs.take (i + 1) = xs.take i ++ [x] := by rw [List.take_add_one, hx]; rfl
    refine hb x _ (fun o H5 => match o with | some y => H5 acc = some (.lst ys) ∧ (∃ o, some x :: capV cs σ = o :: capV cs σ) ∧ ys ++ [y] = (xs.take (i + 1)).filterMap f ∧ upd H5 acc (.lst (ys ++ [y])) = upd H acc (.lst (ys ++ [y])) | none => (∃ o, some x :: capV cs σ = o :: capV cs σ) ∧ ys = (xs.take (i + 1)).filterMap f ∧ H5 = upd H acc (.lst ys)) (List.mem_of_getElem? hx) (sm ys) ?_
    cases hf : f x with
    | none =>
      refine ⟨⟨_, rfl⟩, ?_, rfl⟩
      rw [tk, List.filterMap_append, ← hys]
      simp [hf]
    | some y =>
      refine ⟨upd_same, ⟨_, rfl⟩, ?_, upd_upd⟩
      rw [tk, List.filterMap_append, ← hys]
      simp [hf]
  · have e : i = xs.length := by omega
    subst e
    rw [List.take_length] at hys
    subst hys
    exact .inl ⟨(hJ _ (sm _)).2.2, hd acc hn⟩
theorem comp_L {xs : List V} (h : SqL K H a xs) (hz : xs.length ≤ sizeLine) (f : V → Option V)
    (hb : ∀ x H' (R : Option V → Hp → Prop), x ∈ xs → Same H H' → R (f x) H' → tt (some x :: capV cs σ) H' fun b H4 => if b = true then te (some x :: capV cs σ) H4 fun y H5 => R (some y) H5 else R none H4)
    (hd : ∀ acc, H acc = none → Q (.ref acc) (upd H acc (.lst (xs.filterMap f)))) : CompIt (Itl K a) 1 cs (gName 0) tt te σ H Q :=
  comp_pure f hz (fun H' s => by
    have h' := s.seq h
    exact ⟨fun i hi => ⟨xs, xs[i], h', by simp [hi]⟩, fun i x H2 y => ⟨y.1, fun _ => y.2 xs h'⟩, ⟨xs, h', Nat.le_refl _⟩⟩) hb hd
theorem Same.seqT {K : PySem.W.Frag} {H H' : Hp} {a : Addr} {xs : List V} (e : Same H H') (h : SqT K H a xs) : SqT K H' a xs := by
  rcases h with (h | ⟨o, h⟩) | h
  · exact .inl (.inl (e _ _ h))
  · exact .inl (.inr ⟨o, e _ _ h⟩)
  · exact .inr h
theorem comp_T {xs : List V} (h : SqT K H a xs) (hz : xs.length ≤ sizeLine) (f : V → Option V)
    (hb : ∀ x H' (R : Option V → Hp → Prop), x ∈ xs → Same H H' → R (f x) H' → tt (some x :: capV cs σ) H' fun b H4 => if b = true then te (some x :: capV cs σ) H4 fun y H5 => R (some y) H5 else R none H4)
    (hd : ∀ acc, H acc = none → Q (.ref acc) (upd H acc (.lst (xs.filterMap f)))) : CompIt (Itt K a) 1 cs (gName 0) tt te σ H Q :=
  comp_pure f hz (fun H' s => by
    have h' := s.seqT h
    exact ⟨fun i hi => ⟨xs, xs[i], h', by simp [hi]⟩, fun i x H2 y => ⟨y.1, fun _ => y.2 xs h'⟩, ⟨xs, h', Nat.le_refl _⟩⟩) hb hd
def rngV (lo : Int) (n : Nat) : List V := (List.range n).map fun (i : Nat) => V.int (lo + (i : Int))
theorem rngV_get {lo : Int} {n i : Nat} (h : i < n) : (rngV lo n)[i]? = some (.int (lo + i)) := by unfold rngV; rw [List.getElem?_map, List.getElem?_range h]; rfl
theorem rngV_len {lo : Int} {n : Nat} : (rngV lo n).length = n := by unfold rngV; rw [List.length_map, List.length_range]
theorem comp_R {lo : Int} {n : Nat} (hz : n ≤ sizeLine) (f : V → Option V)
    (hb : ∀ x H' (R : Option V → Hp → Prop), x ∈ rngV lo n → Same H H' → R (f x) H' → tt (some x :: capV cs σ) H' fun b H4 => if b = true then te (some x :: capV cs σ) H4 fun y H5 => R (some y) H5 else R none H4)
    (hd : ∀ acc, H acc = none → Q (.ref acc) (upd H acc (.lst ((rngV lo n).filterMap f)))) : CompIt (Itr lo n) 1 cs (gName 0) tt te σ H Q :=
  comp_pure (xs := rngV lo n) f (by rw [rngV_len]; exact hz) (fun H' s => by
    rw [rngV_len]
    exact ⟨fun i hi => hi, fun i x H2 y => ⟨y.1, fun hi => by rw [rngV_get hi, y.2]⟩, Nat.le_refl _⟩) hb hd
end
end L2
set_option Elab.async false
set_option linter.all false
set_option maxRecDepth 100000
set_option maxHeartbeats 1000000
namespace L2
open PySem PySem.Spec PyProof.Rows
section
variable {X : Cx}
theorem walk_list {pins : List (Addr × Obj)} {σ : St} {H : Hp} {s : Shared} {p : Addr} {xs : List V} (hc : X.calm = true) (I : Inv X pins σ H s) (hp : H p = some (.lst xs)) {Q : Value → Shared → Prop} {E : Value → Shared → Prop}
    (h : ∀ (its : List Value), Vals xs its → ∀ s2 : Shared, s2.heap.IsListIter s.heap.objs.size p 0 ∧ s2.heap.IsList p its.toArray → (∀ b ∈ [s.heap.objs.size, p], b < s2.heap.objs.size) → p ≠ s.heap.objs.size → Walks X.prog X.w X.A.in1 s.heap.objs.size [s.heap.objs.size, p] [s.heap.objs.size] its.toArray.size (fun i v => its.toArray[i]? = some v) (fun i h => h.IsListIter s.heap.objs.size p i ∧ h.IsList p its.toArray) →
      (∀ h' tk, (∀ b o, b ∉ [s.heap.objs.size] → s2.heap.get? b = some o → h'.get? b = some o) → Inv X pins σ H { s2 with heap := h', toks := tk }) → Q (.ref s.heap.objs.size) s2) : wpAny (model X.prog X.w) X.A.in1 (pyIter (.ref p)) Q E s := by
  obtain ⟨its, rv, pl, _⟩ := I.list (SqL.of hp)
  have hlt : p < s.heap.objs.size := I.hok.lt hp
  refine wpAny_pyIter_list pl.isList (h its rv _ ⟨⟨_, Heap.get?_push_size _ rfl, rfl, rfl⟩, pl.isList.push _⟩ (fun b hb => ?_) (Nat.ne_of_lt hlt) (Walks.list (A := X.A.in1) (I.ok.hd hc) _ p (Nat.ne_of_lt hlt) its.toArray) fun h' tk hk => ?_)
  · show b < (s.heap.push _).objs.size
    rw [Heap.size_push]
    rcases List.mem_cons.mp hb with e | e
    · rw [e]; exact Nat.lt_succ_self _
    · have : b = p := by simpa using e
      rw [this]; exact Nat.lt_succ_of_lt hlt
  · exact I.kept (h' := h') (t' := tk) fun b o e => hk b o (by simpa using Nat.ne_of_lt (Heap.lt_size e)) (Heap.get?_push_of_some _ e)
def rBits : V → List V → Hp → VK → Prop := fun x vs H Q => ∃ i, x = .int i ∧ vs = [] ∧ Q (.int (Builtin.Int.intBits i : Nat)) H
theorem w_rBits {i : Int} {H : Hp} {Q : VK} : rBits (.int i) [] H Q = Q (.int (Builtin.Int.intBits i : Nat)) H := propext ⟨fun ⟨j, e, _, q⟩ => by cases e; exact q, fun q => ⟨i, rfl, rfl, q⟩⟩
theorem w_tyInt {K : PySem.W.Frag} {i : Int} {H : Hp} : tyV K "int" (.int i) H = True := eq_true (by first | exact rfl | (unfold tyV; rfl) | (unfold tyV; simp))
end
section
variable {K : PySem.W.Frag} {σ : St} {H : Hp} {Q : VK}
theorem w_bm {T : String} {r : V → List V → Hp → VK → Prop} {to : TE} {t : TA} : tBM K T r to t σ H Q = (to σ H fun x H1 => tyV K T x H1 ∧ t σ H1 fun xs H2 => r x xs H2 Q) := rfl
theorem w_bm0 {T : String} {r : V → List V → Hp → VK → Prop} {to : TE} : tBM0 K T r to σ H Q = (to σ H fun x H1 => tyV K T x H1 ∧ r x [] H1 Q) := rfl
theorem w_append {l : Addr} {y : V} : rAppend (.ref l) [y] H Q = ∃ xs, H l = some (.lst xs) ∧ xs.length < sizeLine ∧ Q .non (upd H l (.lst (xs ++ [y]))) :=
  propext ⟨fun ⟨l', xs, y', e1, e2, h, z, q⟩ => by cases e1; cases e2; exact ⟨xs, h, z, q⟩, fun ⟨xs, h, z, q⟩ => ⟨l, xs, y, rfl, rfl, h, z, q⟩⟩
theorem ty_list {l : Addr} {xs : List V} (h : H l = some (.lst xs)) : tyV K "list" (.ref l) H := by
  first | exact .inl ⟨rfl, _, SqL.of h⟩ | (unfold tyV; exact .inl ⟨rfl, _, SqL.of h⟩)
end
end L2
set_option Elab.async false
set_option linter.all false
set_option maxRecDepth 100000
namespace L2
open PySem PySem.Spec PyProof.Rows PySem.W
end L2
set_option Elab.async false
set_option linter.all false
set_option maxRecDepth 100000
namespace L2
open PySem PySem.Spec PyProof.Rows
def gTupM (n : Nat) (t : TGs) : TG := fun v σ H Q => ∃ a xs, v = .ref a ∧ H a = some (.tup xs) ∧ xs.length = n ∧ t xs σ H Q
theorem pg_tupM {X : Cx} {es : List Expr} {k : Nat} {t : TGs} {pos : Pos} (n : Nat) (hc : X.calm = true) (h : PGs X es t) (hn : (assignEach es X.env).length = n := by rfl) (hst : (assignEach es X.env).findIdx? (·.1) = none := by rfl) : PG X (.Tuple es k pos) (gTupM n t) := by
  intro pins s σ H v u Q I r hw
  obtain ⟨a, xs, e1, hq, hl, hw⟩ := hw
  exact pg_tup (X := X) (n := n) hc h hn hst pins s σ H v u Q I r ⟨a, xs, e1, SqT.of hq, hl, hw⟩
section
variable {K : PySem.W.Frag} {σ : St} {H : Hp} {Q : VK} {R : St → Hp → Prop}
theorem w_gTupM {n : Nat} {t : TGs} {a : Addr} : gTupM n t (.ref a) σ H R = ∃ xs, H a = some (.tup xs) ∧ xs.length = n ∧ t xs σ H R :=
  propext ⟨fun ⟨a', xs, e, h, l, q⟩ => by cases e; exact ⟨xs, h, l, q⟩, fun ⟨xs, h, l, q⟩ => ⟨a, xs, rfl, h, l, q⟩⟩
theorem w_gCons {t : TG} {u : TGs} {v : V} {r : List V} : gCons t u (v :: r) σ H R = t v σ H fun σ' H' => u r σ' H' R :=
  propext ⟨fun ⟨v', r', e, q⟩ => by cases e; exact q, fun q => ⟨v, r, rfl, q⟩⟩
theorem w_gNil : gNil [] σ H R = R σ H := propext ⟨fun ⟨_, q⟩ => q, fun q => ⟨rfl, q⟩⟩
theorem isI_tt {t : Addr} {xs : List V} (h : H t = some (.tup xs)) : rIsI K [.ref t, .ty "tuple"] H Q = Q (.bl true) H := isI_mk (.tup h) (fun _ z => by cases z <;> first | rfl | (rename_i e; rw [h] at e; cases e) | (rename_i e _ _ _ _ _; rw [h] at e; cases e)) (kit_same _)
theorem isI_ll {t : Addr} {xs : List V} (h : H t = some (.lst xs)) : rIsI K [.ref t, .ty "list"] H Q = Q (.bl true) H := isI_mk (.lst h) (fun _ z => by cases z <;> first | rfl | (rename_i e; rw [h] at e; cases e) | (rename_i e _ _ _ _ _; rw [h] at e; cases e)) (kit_same _)
theorem in_tup {x : V} {t : Addr} {xs : List V} {neg : Bool} (h : H t = some (.tup xs)) (fx : flatV x = true) (fs : xs.all flatV = true) (q : Q (.bl (if neg then !inV x xs else inV x xs)) H) : rIn K neg x (.ref t) H Q := ⟨t, xs, rfl, .inr (SqT.of h), fx, fs, q⟩
end
end L2
set_option Elab.async false
set_option linter.all false
set_option maxRecDepth 100000
namespace L2
open PySem PySem.Spec PyProof.Rows
def rDG : R2 := fun x y H Q => ∃ a k, x = .ref a ∧ y = kV k ∧ ∃ kvs, H a = some (.dK kvs) ∧ ∃ v, valV kvs k = some v ∧ Q v H
def rDP : V → V → V → Hp → (Hp → Prop) → Prop := fun x y v H R => ∃ a k, x = .ref a ∧ y = kV k ∧ ∃ kvs, H a = some (.dK kvs) ∧ kvs.length < sizeLine ∧ R (upd H a (.dK (putK kvs k v)))
def sDP (td ty tv : TE) : TS := fun D σ H => tv σ H fun v H1 => td σ H1 fun x H2 => ty σ H2 fun y H3 => rDP x y v H3 fun H4 => D.nx σ H4
def rDI (neg : Bool) : R2 := fun y x H Q => ∃ a k, x = .ref a ∧ y = kV k ∧ ∃ kvs, H a = some (.dK kvs) ∧ Q (.bl (if neg then !(valV kvs k).isSome else (valV kvs k).isSome)) H
section
variable {X : Cx} {o i e value : Expr} {pos pos' tpos : Pos} {td ty tv : TE}
theorem ps_dpM (hu : X.A.units + 1 < cLine) (ho : PE X o td) (hi : PE X i ty) (hv : PE X value tv) (hs : swapsWith value (some (.Subscript o i pos')) pos.line X.env = pure false) : PS X (.Assign [.Subscript o i pos'] value pos) (sDP td ty tv) := by
  intro pins s σ H D I h
  refine wpAny_Assign_Subscript (thn (hv pins s σ H _ I h) fun r s1 ⟨v, H1, I1, rv, q1⟩ => thn (ho pins s1 σ H1 _ I1 q1) fun u s2 ⟨x, H2, I2, rx, q2⟩ => thn (hi pins s2 σ H2 _ I2 q2) fun iv s3 ⟨y, H3, I3, ry, q3⟩ => ?_) hs
  obtain ⟨a, k, rfl, rfl, kvs, hk, hz, q⟩ := q3
  obtain rfl : u = Value.ref a := rx
  exact d_setItem hu I3 (DPut.k (v := v) hk hz) ry rv fun s4 I4 => ⟨σ, _, I4, q⟩
theorem op_dI (hu : X.A.units + 1 < cLine) : OpR X (compareOp .In) (rDI false) := by
  intro pins s σ H x y v u Q I rx ry h
  obtain ⟨a, k, rfl, rfl, kvs, hk, q⟩ := h
  obtain rfl : u = Value.ref a := ry
  exact d_in hu I (DGet.k hk) rx fun s' I' => ⟨.bl _, H, I', rfl, q⟩
end
section
variable {σ : St} {H : Hp} {Q : VK} {D : Ends} {a : Addr} {v : V} {R : Hp → Prop}
theorem kV_s {k : Key} {x : Str} : (V.str x = kV k) = (k = .inr x) := propext ⟨fun e => by cases k <;> cases e; rfl, fun e => by subst e; rfl⟩
theorem kV_i {k : Key} {x : Int} : (V.int x = kV k) = (k = .inl x) := propext ⟨fun e => by cases k <;> cases e; rfl, fun e => by subst e; rfl⟩
theorem w_dgS {x : Str} : rDG (.ref a) (.str x) H Q = ∃ kvs, H a = some (.dK kvs) ∧ ∃ v, valV kvs (.inr x) = some v ∧ Q v H :=
  propext ⟨fun ⟨a', k, e1, e2, q⟩ => by cases e1; rw [kV_s] at e2; subst e2; exact q, fun q => ⟨a, .inr x, rfl, rfl, q⟩⟩
theorem w_dgI {x : Int} : rDG (.ref a) (.int x) H Q = ∃ kvs, H a = some (.dK kvs) ∧ ∃ v, valV kvs (.inl x) = some v ∧ Q v H :=
  propext ⟨fun ⟨a', k, e1, e2, q⟩ => by cases e1; rw [kV_i] at e2; subst e2; exact q, fun q => ⟨a, .inl x, rfl, rfl, q⟩⟩
theorem w_sDP {td ty tv : TE} : sDP td ty tv D σ H = (tv σ H fun v H1 => td σ H1 fun x H2 => ty σ H2 fun y H3 => rDP x y v H3 fun H4 => D.nx σ H4) := rfl
theorem w_dpS {x : Str} : rDP (.ref a) (.str x) v H R = ∃ kvs, H a = some (.dK kvs) ∧ kvs.length < sizeLine ∧ R (upd H a (.dK (putK kvs (.inr x) v))) :=
  propext ⟨fun ⟨a', k, e1, e2, q⟩ => by cases e1; rw [kV_s] at e2; subst e2; exact q, fun q => ⟨a, .inr x, rfl, rfl, q⟩⟩
theorem w_dpI {x : Int} : rDP (.ref a) (.int x) v H R = ∃ kvs, H a = some (.dK kvs) ∧ kvs.length < sizeLine ∧ R (upd H a (.dK (putK kvs (.inl x) v))) :=
  propext ⟨fun ⟨a', k, e1, e2, q⟩ => by cases e1; rw [kV_i] at e2; subst e2; exact q, fun q => ⟨a, .inl x, rfl, rfl, q⟩⟩
theorem w_dII {neg : Bool} {x : Int} : rDI neg (.int x) (.ref a) H Q = ∃ kvs, H a = some (.dK kvs) ∧ Q (.bl (if neg then !(valV kvs (.inl x)).isSome else (valV kvs (.inl x)).isSome)) H :=
  propext ⟨fun ⟨a', k, e1, e2, q⟩ => by cases e1; rw [kV_i] at e2; subst e2; exact q, fun q => ⟨a, .inl x, rfl, rfl, q⟩⟩
theorem w_disp {trs : List (TE × TE)} : tDisp trs σ H Q = ∀ p, H p = none → tPairs trs σ (upd H p (.dK [])) fun ps H2 => H2 p = some (.dK []) ∧ ∃ kvs : List (Key × V), ps = kvs.map (fun kv => (kV kv.1, kv.2)) ∧ kvs.length ≤ 15 ∧ Q (.ref p) (upd H2 p (.dK (mergeK [] kvs))) := rfl
end
def penKV (a : Addr) (at_ l : Int) : List (Key × V) := [(.inr "script", .ref a), (.inr "at", .int at_), (.inr "left", .int l)]
theorem pen_s {a : Addr} {t l : Int} : valV (penKV a t l) (.inr "script") = some (.ref a) := by unfold penKV; rw [valV_pos rfl]
theorem key_sa : ¬ (Sum.inr "script" : Key) = (Sum.inr "at" : Key) := by decide
theorem key_sl : ¬ (Sum.inr "script" : Key) = (Sum.inr "left" : Key) := by decide
theorem key_al : ¬ (Sum.inr "at" : Key) = (Sum.inr "left" : Key) := by decide
theorem pen_a {a : Addr} {t l : Int} : valV (penKV a t l) (.inr "at") = some (.int t) := by unfold penKV; rw [valV_neg key_sa, valV_pos rfl]
theorem pen_l {a : Addr} {t l : Int} : valV (penKV a t l) (.inr "left") = some (.int l) := by unfold penKV; rw [valV_neg key_sl, valV_neg key_al, valV_pos rfl]
theorem pen_len {a : Addr} {t l : Int} : ((penKV a t l).length < sizeLine) = True := eq_true (Nat.lt_of_lt_of_le (by decide : 3 < 1000) (le_size (by decide)))
theorem pen_pa {a : Addr} {t l x : Int} : putK (penKV a t l) (.inr "at") (.int x) = penKV a x l := by
  unfold putK
  rw [valV_any, pen_a]
  rfl
theorem pen_pl {a : Addr} {t l x : Int} : putK (penKV a t l) (.inr "left") (.int x) = penKV a t x := by
  unfold putK
  rw [valV_any, pen_l]
  rfl
end L2
set_option Elab.async false
set_option linter.all false
set_option maxRecDepth 100000
namespace L2
open PySem PySem.Spec PyProof.Rows
def Itv (K : PySem.W.Frag) (a : Addr) (n : Nat) : It :=
  ⟨fun i H => i < n ∧ ∃ xs, SqL K H a xs ∧ xs.length = n, fun i H x H' => H' = H ∧ ∀ xs, SqL K H a xs → xs.length = n → xs[n - 1 - i]? = some x, fun i H => i = n⟩
theorem turn_rev {P : Program} {w : World} {K : PySem.W.Frag} {tg : Expr} (a it : Addr) (n : Nat) : Turn P w K tg (Itv K a n) [it] it (fun i h => i ≤ n ∧ h.IsRevIter it a ((n : Int) - 1 - (i : Int))) where
  mem := by simp
  obj := fun i h st b hb => by
    have e : b = it := by simpa using hb
    subst e
    obtain ⟨_, o, e, c, d⟩ := st
    exact ⟨o, e, fun v z => by rw [d] at z; cases z⟩
  keep := fun i h h' st k => ⟨st.1, st.2.at fun o e => k it (by simp) o e⟩
  item := by
    intro X hP hw hK hc i pins s σ H E I hf st hg
    subst hP hw hK
    obtain ⟨hi, xs, hq, hn⟩ := hg
    obtain ⟨its, rv, p, hz⟩ := I.list hq
    have hlt : n - 1 - i < xs.length := by omega
    obtain ⟨u, hu, ru⟩ := rv.get (List.getElem?_eq_getElem hlt)
    obtain ⟨f0, f1, f2, f3, f4, f5⟩ := hf it (by simp)
    have e1 : (n : Int) - 1 - (i : Int) = ((n - 1 - i : Nat) : Int) := by omega
    have st2 := st.2
    rw [e1] at st2
    refine wpAny_pyNext_rev_item st2 p.isList (x := u) (by simpa using hu) fun h' st' sb => ?_
    have I1 : Inv X pins σ H { s with heap := h' } := I.turned (t' := s.toks) (fun b o hb e => (sb.2 b hb).trans e) f0 f1 f3 f4 f5
    obtain ⟨o, e, c, d⟩ := id st'
    have e2 : ((n - 1 - i : Nat) : Int) - 1 = (n : Int) - 1 - ((i + 1 : Nat) : Int) := by omega
    rw [e2] at st'
    exact ⟨u, rfl, go_of (s := { s with heap := h' }) e c d (by decide) ⟨xs[n - 1 - i], H, I1, ru, ⟨rfl, fun ys hy _ => by rw [I.list_inj hy hq]; exact List.getElem?_eq_getElem hlt⟩, ⟨hi, st'⟩, fun b hb => (hf b hb).1⟩⟩
  done := by
    intro X hP hw hK hc i pins s σ H E I hf st hg
    subst hP hw hK
    obtain ⟨f0, f1, f2, f3, f4, f5⟩ := hf it (by simp)
    have hg : i = n := hg
    have st2 := st.2
    rw [show (n : Int) - 1 - (i : Int) = -1 by omega] at st2
    exact wpAny_pyNext_rev_end (I.ok.hd hc) st2 fun h' eb => ⟨rfl, I.turned (t' := s.toks) (fun b o hb e => eb b o hb e) f0 f1 f3 f4 f5⟩
  self := fun _ _ _ _ _ st h => wpAny_pyIter_revIter st.2 h
def iRev (K : PySem.W.Frag) (ta : TA) : TI := fun σ H R => ta σ H fun vs H1 => ∃ a xs, vs = [.ref a] ∧ SqL K H1 a xs ∧ R (Itv K a xs.length) H1
theorem pi_rev {X : Cx} {tg a : Expr} {ta : TA} {p pos : Pos} (hg : Gl X "reversed") (hm : X.mg "reversed" = none) (ha : PA X [a] ta) (hs : starEach [a] X.env = [(false, eval a X.env)] := by rfl) : PI X tg (.Call (.Name "reversed" p) [a] [] pos) (iRev X.K ta) := by
  intro pins s σ H R I h
  refine Call_ (ld_blt I hg hm bo_reversed (PyProof.Rows.callWith_type1 (thn (ha pos pins s σ H _ I h) fun us s1 ⟨vs, H1, I1, r1, q1⟩ => ?_) hs rfl))
  obtain ⟨l, xs, e, hq, q⟩ := q1
  subst e
  obtain ⟨u, rfl, ru⟩ := Vals.one r1
  cases ru
  obtain ⟨its, rv, pl, hz⟩ := I1.list hq
  have hlen : its.toArray.size = xs.length := by rw [List.size_toArray, rv.length]
  refine call_reversed_list pl.isList ?_
  rw [hlen]
  have I2 : Inv X pins σ H1 { s1 with heap := s1.heap.push (revObj l ((xs.length : Int) - 1)) } := I1.kept (t' := s1.toks) fun b o e => Heap.get?_push_of_some _ e
  have st : (s1.heap.push (revObj l ((xs.length : Int) - 1))).IsRevIter s1.heap.objs.size l ((xs.length : Int) - 1 - ((0 : Nat) : Int)) := by
    rw [show (xs.length : Int) - 1 - ((0 : Nat) : Int) = (xs.length : Int) - 1 by omega]
    exact ⟨_, Heap.get?_push_size _ rfl, rfl, rfl⟩
  refine wpAny_pyIter_revIter st ?_
  refine ⟨s1.heap.objs.size, [s1.heap.objs.size], _, _, H1, rfl, I2, turn_rev l _ xs.length, ⟨Nat.zero_le _, st⟩, fun b hb => ?_, q⟩
  have e : b = s1.heap.objs.size := by simpa using hb
  subst e
  exact I1.fpOk (Nat.le_refl _) (I1.hok.fresh (Nat.le_refl _))
def ForV (K : PySem.W.Frag) (a : Addr) (n : Nat) (g : TG) (tb : TS) (D : Ends) (σ : St) (H : Hp) : Prop := ∃ W : Nat → Nat → St → Hp → Prop, (∃ m, W 0 m σ H) ∧ ∀ i m σ H, W i m σ H →
  ((Itv K a n).stop i H ∧ D.nx σ H) ∨ ((Itv K a n).go i H ∧ ∃ N : St → Hp → Prop, (∀ σ' H', N σ' H' → ∃ m', m' < m ∧ W (i + 1) m' σ' H') ∧ ∀ x H', (Itv K a n).yld i H x H' → g x σ H' fun σ2 H2 => tb { D with nx := N, ct := N, bk := D.nx } σ2 H2)
section
variable {σ : St} {H : Hp} {D : Ends} {g : TG} {tb : TS} {K : PySem.W.Frag} {a : Addr}
theorem w_forV {ta : TA} : tFor (iRev K ta) g tb D σ H = (ta σ H fun vs H1 => ∃ a xs, vs = [.ref a] ∧ SqL K H1 a xs ∧ ForV K a xs.length g tb D σ H1) := rfl
theorem forV {xs : List V} (Pv : Nat → St → Hp → Prop) (h0 : Pv 0 σ H) (hl : ∀ i σ H, i ≤ xs.length → Pv i σ H → SqL K H a xs)
    (hs : ∀ i x σ H (N : St → Hp → Prop), xs.reverse[i]? = some x → Pv i σ H → (∀ σ' H', Pv (i + 1) σ' H' → N σ' H') → g x σ H fun σ2 H2 => tb { D with nx := N, ct := N, bk := D.nx } σ2 H2) (hd : ∀ σ H, Pv xs.length σ H → D.nx σ H) : ForV K a xs.length g tb D σ H := by
  refine ⟨fun i m σ H => m = xs.length - i ∧ i ≤ xs.length ∧ Pv i σ H, ⟨xs.length, by simp, Nat.zero_le _, h0⟩, ?_⟩
  rintro i m σ H ⟨rfl, hi, p⟩
  have q := hl i σ H hi p
  by_cases hlt : i < xs.length
  · refine .inr ⟨⟨hlt, xs, q, rfl⟩, Pv (i + 1), fun σ' H' p' => ⟨xs.length - (i + 1), by omega, rfl, hlt, p'⟩, fun x H' y => ?_⟩
    obtain ⟨e, y⟩ := y
    subst e
    refine hs i x σ _ (Pv (i + 1)) ?_ p fun _ _ z => z
    rw [List.getElem?_reverse hlt]
    exact y xs q rfl
  · have e : i = xs.length := by omega
    subst e
    exact .inl ⟨rfl, hd σ H p⟩
end
end L2
set_option Elab.async false
set_option linter.all false
set_option maxRecDepth 100000
namespace L2
open PySem
def fs (n : Int) : Int := if n % 2 = 0 then 0 else 2 - n % 4
def val : List Int → Int
  | [] => 0
  | d :: r => d + 2 * val r
end L2
set_option Elab.async false
set_option linter.all false
set_option maxRecDepth 100000
namespace L2
open PySem PySem.Spec PyProof.Rows
theorem filterMap_some {α β : Type} (f : α → β) (xs : List α) : xs.filterMap (fun x => some (f x)) = xs.map f := by
  induction xs with
  | nil => rfl
  | cons x r ih => rw [List.filterMap_cons, ih]; rfl
end L2
set_option Elab.async false
set_option linter.all false
set_option maxRecDepth 100000
namespace L2
open PySem
theorem le_big {n : Nat} (h : n ≤ 100000) : n ≤ sizeLine := Nat.le_trans h (by decide)
theorem lt_big {n : Nat} (h : n < 100000) : n < sizeLine := Nat.lt_of_lt_of_le h (by decide)
theorem same_upd {H H' : Hp} {r : Addr} {o : HO} (h : H r = none) (s : Same H H') : Same H (upd H' r o) := fun b u q => by rw [upd_ne (ne_of_none q h)]; exact s b u q
def On2 (vs : List V) (P : Int → Int → Prop) : Prop := ∃ i j, vs = [.int i, .int j] ∧ P i j
theorem w_On2 {i j : Int} {P : Int → Int → Prop} : On2 [.int i, .int j] P = P i j := propext ⟨fun ⟨i', j', e, q⟩ => by cases e; exact q, fun q => ⟨i, j, rfl, q⟩⟩
section
variable {σ : St} {H : Hp} {D : Ends} {g : TG} {tb : TS} {K : PySem.W.Frag} {Q : VK} {nt : Nat} {cs : List Nat} {tt : TT} {te : TE}
theorem w_for2b {ta : TA} : tFor (iRng2 ta) g tb D σ H = (ta σ H fun vs H1 => On2 vs fun i j => (-(2 ^ 62) ≤ i ∧ i < 2 ^ 62 ∧ -(2 ^ 62) ≤ j ∧ j < 2 ^ 62) ∧ ForR i (j - i).toNat g tb D σ H1) := rfl
theorem w_comp2b {ta : TA} : tComp (iRng2 ta) nt cs g tt te σ H Q = (ta σ H fun vs H1 => On2 vs fun i j => (-(2 ^ 62) ≤ i ∧ i < 2 ^ 62 ∧ -(2 ^ 62) ≤ j ∧ j < 2 ^ 62) ∧ CompIt (Itr i (j - i).toNat) nt cs g tt te σ H1 Q) := rfl
end
end L2
set_option Elab.async false
set_option linter.all false
set_option maxRecDepth 100000
namespace L2
open PySem
theorem w_neB {a b : Bool} {H : Hp} {Q : VK} : rNe (.bl a) (.bl b) H Q = Q (.bl (!decide (a = b))) H :=
  propext (by
    have e : decide (V.bl a = V.bl b) = decide (a = b) := by by_cases h : a = b <;> simp [h]
    unfold rNe; rw [e]; exact ⟨fun h => h.2, fun h => ⟨rfl, h⟩⟩)
theorem w_eqB {a b : Bool} {H : Hp} {Q : VK} : rEq (.bl a) (.bl b) H Q = Q (.bl (decide (a = b))) H :=
  propext (by
    have e : decide (V.bl a = V.bl b) = decide (a = b) := by by_cases h : a = b <;> simp [h]
    unfold rEq; rw [e]; exact ⟨fun h => h.2, fun h => ⟨rfl, h⟩⟩)
end L2
set_option Elab.async false
set_option linter.all false
set_option maxRecDepth 100000
namespace L2
open PySem
abbrev SS := List (Int × Int) × List Int
def stp (m : Int) (s : SS) (o : Int) : SS := if (s.1.lookup o).isSome = false ∧ (if o < 0 then -o else o) < 200 then (s.1 ++ [(o, m)], s.2 ++ [o]) else s
def kin (m n : Int) (s : SS) (k : Nat) : SS := stp m (stp m s (n + 1 * 2 ^ k)) (n - 1 * 2 ^ k)
end L2
set_option Elab.async false
set_option linter.all false
set_option maxRecDepth 100000
set_option maxHeartbeats 1000000
namespace L2
open PySem PySem.Spec PyProof.Rows
section
variable {prog : Program} {w : World} {A : Around} {R : Result → Shared → Prop} {I S : Addr} {fp wr : List Addr} {n : Nat} {P : Nat → Value → Prop} {St : Nat → Heap → Prop} {bt : Nat → Nat → Bool} {d : Value}
end
section
variable {prog : Program} {w : World} {A : Around} {E : Value → Shared → Prop} {s : Shared} {d x : Value}
end
def mz : List Int → Int
  | [] => 0
  | x :: r => if mz r < x then x else mz r
section
variable {X : Cx} {e : Expr} {es : List Expr} {kws : List Keyword} {t tk : TA} {p pos : Pos}
def tMaxD (t tk : TA) : TE := fun σ H Q => t σ H fun vs H1 => tk σ H1 fun zs H2 => ∃ (p : Addr) (ns : List Int), vs = [.ref p] ∧ zs = [.int 0] ∧ H2 p = some (.lst (ns.map V.int)) ∧ (∀ n ∈ ns, 0 ≤ n) ∧ Q (.int (mz ns)) H2
end
section
variable {K : PySem.W.Frag} {σ : St} {H : Hp} {Q : VK}
theorem w_maxD {t tk : TA} : tMaxD t tk σ H Q = t σ H fun vs H1 => tk σ H1 fun zs H2 => ∃ (p : Addr) (ns : List Int), vs = [.ref p] ∧ zs = [.int 0] ∧ H2 p = some (.lst (ns.map V.int)) ∧ (∀ n ∈ ns, 0 ≤ n) ∧ Q (.int (mz ns)) H2 := rfl
theorem w_sl {r : V → Option Int → Option Int → Hp → VK → Prop} {te : TE} {tl th : TO} : tSl r te tl th σ H Q = te σ H fun x H1 => tl σ H1 fun l H2 => th σ H2 fun u H3 => r x l u H3 Q := rfl
theorem w_noPart {R : Option Int → Hp → Prop} : tNoPart σ H R = R none H := rfl
theorem w_part {t : TE} {R : Option Int → Hp → Prop} : tPart t σ H R = t σ H fun x H1 => ∃ i, x = .int i ∧ R (some i) H1 := rfl
theorem w_slL {a : Addr} {lo hi : Option Int} : rSlL K (.ref a) lo hi H Q = ∃ xs, SqL K H a xs ∧ ∀ p, H p = none → Q (.ref p) (upd H p (.lst (cutV xs lo hi))) :=
  propext ⟨fun ⟨a', xs, e, h, q⟩ => by cases e; exact ⟨xs, h, q⟩, fun ⟨xs, h, q⟩ => ⟨a, xs, rfl, h, q⟩⟩
end
end L2
set_option Elab.async false
set_option linter.all false
set_option maxRecDepth 100000
set_option maxHeartbeats 1000000
namespace L2
open PySem PySem.Spec PyProof.Rows
theorem key_rel {k : Key} {v : Value} (h : keyIs k v = true) : RelV (kV k) v := by
  rcases keyIs_shape h with ⟨i, t, rfl, rfl⟩ | ⟨x, t, rfl, rfl⟩
  · exact ⟨t, rfl⟩
  · exact ⟨t, rfl⟩
section
variable {σ : St} {H : Hp} {Q : VK} {D : Ends}
theorem w_aug {i : Nat} {te : TE} {ti : TIp} : tAug i te ti D σ H = ∃ x, σ[i]? = some (some x) ∧ te σ H fun y H1 => ti x y H1 fun z H2 => D.nx (σ.set i (some z)) H2 := rfl
theorem w_ipI {f : Int → Int → Int} {i j : Int} : ipI f (.int i) (.int j) H Q = Q (.int (f i j)) H := propext ⟨fun ⟨_, _, e1, e2, q⟩ => by cases e1; cases e2; exact q, fun q => ⟨i, j, rfl, rfl, q⟩⟩
theorem w_dnK : tDNewK σ H Q = ∀ p, H p = none → Q (.ref p) (upd H p (.dK [])) := rfl
end
structure Dd where
  g : Int
  a : Nat
  s : Nat
  b : Nat
  t : Nat
def dnum (ns : List Int) (d : Dd) : Int := ns.getD d.a 0 * 2 ^ d.s + d.g * (ns.getD d.b 0 * 2 ^ d.t)
def ev (ds : List Dd) : List Int := ds.foldl (fun ns d => ns ++ [dnum ns d]) [1]
theorem snoc_ind {α : Type} {p : List α → Prop} (h0 : p []) (hs : ∀ xs x, p xs → p (xs ++ [x])) (xs : List α) : p xs := by
  have : p xs.reverse.reverse := by
    generalize xs.reverse = ys
    induction ys with
    | nil => exact h0
    | cons y r ih => rw [List.reverse_cons]; exact hs _ _ ih
  rwa [List.reverse_reverse] at this
def ukv (us : List Int) : List (Key × V) := us.map fun c => (Sum.inl c, V.bl true)
theorem ukv_val : ∀ (us : List Int) (c : Int), valV (ukv us) (.inl c) = if c ∈ us then some (.bl true) else none
  | [], c => by simp [ukv, valV_nil]
  | u :: r, c => by
    show valV ((Sum.inl u, V.bl true) :: ukv r) (.inl c) = _
    by_cases h : u = c
    · subst h
      rw [valV_pos rfl, if_pos List.mem_cons_self]
    · rw [valV_neg (fun z => h (Sum.inl.inj z)), ukv_val r c]
      by_cases hm : c ∈ r
      · rw [if_pos hm, if_pos (List.mem_cons_of_mem _ hm)]
      · rw [if_neg hm, if_neg (by intro z; rcases List.mem_cons.mp z with e | e; exact h e.symm; exact hm e)]
theorem ukv_put (us : List Int) (c : Int) : putK (ukv us) (.inl c) (.bl true) = ukv (if c ∈ us then us else us ++ [c]) := by
  by_cases h : c ∈ us
  · rw [if_pos h]
    unfold putK
    rw [valV_any, ukv_val, if_pos h, if_pos (show (some (V.bl true)).isSome = true from rfl)]
    unfold ukv
    rw [List.map_map]
    refine List.map_congr_left fun x _ => ?_
    show (if (Sum.inl x : Key) = Sum.inl c then ((Sum.inl x : Key), V.bl true) else (Sum.inl x, V.bl true)) = _
    split <;> rfl
  · rw [if_neg h, putK_new _ (by rw [ukv_val, if_neg h])]
    unfold ukv
    rw [List.map_append]
    rfl
theorem ukv_keys (us : List Int) : (ukv us).map (fun q => kV q.1) = us.map V.int := by
  unfold ukv
  rw [List.map_map]
  rfl
def CT0 (K : PySem.W.Frag) (t : Addr) : Prop := ∃ (o : Obj) (its : Array Value) (n : Nat), K.lookup t = some o ∧ o.cls = .type "tuple" ∧ o.data = .seq its n ∧ its.size ≤ sizeLine ∧ Vals [.int 0, .int 0, .int 0] its.toList
theorem CT0.sq {K : PySem.W.Frag} {t : Addr} (h : CT0 K t) (H : Hp) : SqT K H t [.int 0, .int 0, .int 0] := .inr h
section
variable {X : Cx}
def rIsT (K : PySem.W.Frag) : List V → Hp → VK → Prop := fun xs H Q => ∃ p ys, xs = [.ref p, .ty "tuple"] ∧ SqT K H p ys ∧ Q (.bl true) H
theorem call_isT : CallR X (.builtin "isinstance") (rIsT X.K) := by
  intro pins s σ H xs us Q I r h
  obtain ⟨p, ys, rfl, hq, q⟩ := h
  obtain ⟨u, w', rfl, ru, rw'⟩ := vals2 r
  cases (show u = Value.ref p from ru)
  cases (show w' = Value.type "tuple" from rw')
  obtain ⟨its, r', pl, hz⟩ := I.tuple hq
  obtain ⟨o, h1, h2, _⟩ := pl
  exact PySem.W.kia_one PySem.W.kitx_tuple I.kIn ⟨o, h1, h2⟩ (kit_same _) (fun z => nomatch z) fun tk => ⟨.bl true, H, I.tok _, rfl, q⟩
end
section
variable {K : PySem.W.Frag} {H : Hp} {Q : VK}
theorem w_ixT {p : Addr} {i : Int} : rIxT K (.ref p) (.int i) H Q = ∃ xs, SqT K H p xs ∧ ∃ v, atI xs i = some v ∧ Q v H :=
  propext ⟨fun ⟨p', xs, i', v, e1, e2, h, a, q⟩ => by cases e1; cases e2; exact ⟨xs, h, v, a, q⟩, fun ⟨xs, h, v, a, q⟩ => ⟨p, xs, i, v, rfl, rfl, h, a, q⟩⟩
theorem w_eqS {x y : Str} : rEq (.str x) (.str y) H Q = Q (.bl (decide (x = y))) H :=
  propext (by
    have e : decide (V.str x = V.str y) = decide (x = y) := by by_cases h : x = y <;> simp [h]
    unfold rEq
    rw [e]
    exact ⟨fun h => h.2, fun h => ⟨rfl, h⟩⟩)
end
end L2
set_option Elab.async false
set_option linter.all false
set_option maxRecDepth 100000
set_option maxHeartbeats 1000000
namespace L2
open PySem PySem.Spec PyProof.Rows
theorem Inv.turnedL {X : Cx} {pins : List (Addr × Obj)} {σ : St} {H : Hp} {s : Shared} {h' : Heap} {t' : Nat} (ch : List Addr) (I : Inv X pins σ H s) (k : ∀ b o, b ∉ ch → s.heap.get? b = some o → h'.get? b = some o) (hf : ∀ b ∈ ch, FpOk X pins H b) : Inv X pins σ H { s with heap := h', toks := t' } := by
  have nit : ∀ b u, H b = some u → b ∉ ch := fun b u e z => by rw [(hf b z).1] at e; cases e
  refine I.step (g' := s.gens) (d' := s.drawn) (ch := ch) (fun b hb => ?_) (fun b o _ _ hc e _ => k b o hc e) (fun b o _ _ hc e _ => ⟨o.slots, k b o hc e⟩) (fun _ _ _ _ n => n)
    (fun b o hc e => ⟨o, k b o hc e⟩) (fun _ _ e => e) (fun _ _ _ e => e) (fun b ps e => ⟨#[], by rw [e]; simp⟩) (fun m hm => ?_) (fun b u e => ?_) I.bare
  · obtain ⟨f0, f1, f2, f3, f4, f5⟩ := hf b hb
    exact ⟨f3, f1, f4, f5⟩
  · obtain ⟨o, es, ep, ho, r⟩ := hm
    exact ⟨o, es, ep, k _ o (fun z => (hf _ z).2.1 rfl) ho, r⟩
  · refine (I.hok b u e).stay (fun c v hc q => k c v ?_ q) (fun _ q => q) fun _ _ q => q
    rcases hc with z | z
    · rw [z]; exact nit b u e
    · exact nit c _ z
theorem get_push_ne {h : Heap} {b : Addr} {o o' : Obj} (n : b ≠ h.objs.size) (e : (h.push o').get? b = some o) : h.get? b = some o := by
  rw [Heap.get?_push_ne h b o' n] at e
  exact e
def Itz (K : PySem.W.Frag) (a b : Addr) : It :=
  ⟨fun i H => ∃ xs ys, SqL K H a xs ∧ SqL K H b ys ∧ i < xs.length ∧ i < ys.length,
   fun i H x H' => ∃ T u v, x = .ref T ∧ H T = none ∧ H' = upd H T (.tup [u, v]) ∧ (∀ xs, SqL K H a xs → xs[i]? = some u) ∧ (∀ ys, SqL K H b ys → ys[i]? = some v),
   fun i H => ∃ xs ys, SqL K H a xs ∧ SqL K H b ys ∧ (xs.length ≤ i ∨ ys.length ≤ i)⟩
def tnZ (z TI TO i1 i2 a b : Addr) (i : Nat) (h : Heap) : Prop := IsZip h z TI TO .none ∧ IsPair h TI (.ref i1) (.ref i2) ∧ (∃ x y, IsPair h TO x y) ∧ h.IsListIter i1 a i ∧ h.IsListIter i2 b i
theorem turn_zip {P : Program} {w : World} {K : PySem.W.Frag} {elts : List Expr} {x1 : Nat} {pos : Pos} {z TI TO i1 i2 a b : Addr} (D : ZipApart z TI TO i1 i2 a b) : Turn P w K (.Tuple elts x1 pos) (Itz K a b) [z, TI, TO, i1, i2] z (tnZ z TI TO i1 i2 a b) where
  mem := by simp
  obj := fun i h st c hc => by
    obtain ⟨t1, t2, ⟨x0, y0, t3⟩, ⟨o4, e4, c4, d4⟩, ⟨o5, e5, c5, d5⟩⟩ := st
    simp only [List.mem_cons, List.not_mem_nil, or_false] at hc
    rcases hc with e | e | e | e | e <;> subst e
    · exact ⟨_, t1, fun v q => by cases q⟩
    · exact ⟨_, t2, fun v q => by cases q⟩
    · exact ⟨_, t3, fun v q => by cases q⟩
    · exact ⟨o4, e4, fun v q => by rw [d4] at q; cases q⟩
    · exact ⟨o5, e5, fun v q => by rw [d5] at q; cases q⟩
  keep := fun i h h' st k => by
    obtain ⟨t1, t2, ⟨x0, y0, t3⟩, t4, t5⟩ := st
    exact ⟨k z (by simp) _ t1, k TI (by simp) _ t2, ⟨x0, y0, k TO (by simp) _ t3⟩, t4.at fun o e => k i1 (by simp) o e, t5.at fun o e => k i2 (by simp) o e⟩
  item := by
    intro X hP hw hK hc i pins s σ H E I hf st hg
    subst hP hw hK
    obtain ⟨xs, ys, hq, hq2, hi, hi2⟩ := hg
    obtain ⟨its, rv, p, hz⟩ := I.list hq
    obtain ⟨its2, rv2, p2, hz2⟩ := I.list hq2
    obtain ⟨u, hu, ru⟩ := rv.get (List.getElem?_eq_getElem hi)
    obtain ⟨v, hv, rv'⟩ := rv2.get (List.getElem?_eq_getElem hi2)
    obtain ⟨t1, t2, ⟨x0, y0, t3⟩, t4, t5⟩ := st
    have hl1 : z < s.heap.objs.size := Heap.lt_size t1
    have hl3 : TO < s.heap.objs.size := Heap.lt_size t3
    have hl2 : TI < s.heap.objs.size := Heap.lt_size t2
    have hl4 : i1 < s.heap.objs.size := by obtain ⟨o, e, _⟩ := t4; exact Heap.lt_size e
    have hl5 : i2 < s.heap.objs.size := by obtain ⟨o, e, _⟩ := t5; exact Heap.lt_size e
    refine wpAny_pyNext_zip_item D t1 t2 t3 t4 t5 p.isList p2.isList (x := u) (y := v) (by simpa using hu) (by simpa using hv) fun h' a1 a2 a3 a4 a5 a6 a7 => ⟨_, rfl, ?_⟩
    refine wpAny_letOwnedTupleGo_zip a1 fun h2 b1 b2 => ?_
    have hT0 : H s.heap.objs.size = none := I.hok.fresh (Nat.le_refl _)
    have I1 : Inv X pins σ (upd H s.heap.objs.size (.tup [xs[i], ys[i]])) { s with heap := s.heap.push { cls := .type "tuple", data := .seq [u, v].toArray } } :=
      I.laid (t' := s.toks) (fun b o e => Heap.get?_push_of_some _ e) (Nat.le_refl _) (show ObjOk X.prog X.w _ _ _ (.tup [xs[i], ys[i]]) from ⟨le_size (by show 2 ≤ 1000; decide), [u, v], .cons ru (.cons rv' .nil), IsTup.new _ _⟩)
    have fpk : ∀ c ∈ [z, TI, TO, i1, i2], c ≠ s.heap.objs.size := fun c hc => by
      simp only [List.mem_cons, List.not_mem_nil, or_false] at hc
      rcases hc with e | e | e | e | e <;> subst e <;> exact Nat.ne_of_lt (by assumption)
    have fp2 : ∀ c ∈ [z, TI, TO, i1, i2], FpOk X pins (upd H s.heap.objs.size (.tup [xs[i], ys[i]])) c := fun c hc => by
      obtain ⟨f0, f⟩ := hf c hc
      exact ⟨by rw [upd_ne (fpk c hc)]; exact f0, f⟩
    have I2 : Inv X pins σ (upd H s.heap.objs.size (.tup [xs[i], ys[i]])) { s with heap := h2 } := by
      refine Inv.turnedL (s := { s with heap := s.heap.push { cls := .type "tuple", data := .seq [u, v].toArray } }) (t' := s.toks) (h' := h2) [z, TO, i1, i2] I1 (fun b o hb e => ?_) (fun c hc => fp2 c (by simp only [List.mem_cons, List.not_mem_nil, or_false] at hc ⊢; rcases hc with e | e | e | e <;> simp [e]))
      simp only [List.mem_cons, List.not_mem_nil, or_false, not_or] at hb
      obtain ⟨n1, n2, n3, n4⟩ := hb
      refine (b2.2 b n1).trans ?_
      by_cases hT : b = s.heap.objs.size
      · subst hT
        rw [Heap.get?_push_size _ rfl] at e
        rw [← e]
        exact a5
      · exact a7 b o n1 n2 n3 n4 (get_push_ne hT e)
    have t4' : h2.IsListIter i1 a (i + 1) := a3.at fun o e => (b2.2 _ D.i1z).trans e
    have t5' : h2.IsListIter i2 b (i + 1) := a4.at fun o e => (b2.2 _ D.i2z).trans e
    refine ⟨.ref s.heap.objs.size, _, I2, rfl, ⟨_, xs[i], ys[i], rfl, hT0, rfl, fun zs h => ?_, fun zs h => ?_⟩, ⟨b1, (b2.2 _ D.TIz).trans (a7 TI _ D.TIz D.TITO D.TIi1 D.TIi2 t2), ⟨_, _, (b2.2 _ D.TOz).trans a2⟩, t4', t5'⟩, fun c hc => (fp2 c hc).1⟩
    · rw [I.list_inj h hq]; exact List.getElem?_eq_getElem hi
    · rw [I.list_inj h hq2]; exact List.getElem?_eq_getElem hi2
  done := by
    intro X hP hw hK hc i pins s σ H E I hf st hg
    subst hP hw hK
    obtain ⟨xs, ys, hq, hq2, hend⟩ := hg
    obtain ⟨its, rv, p, hz⟩ := I.list hq
    obtain ⟨its2, rv2, p2, hz2⟩ := I.list hq2
    obtain ⟨t1, t2, ⟨x0, y0, t3⟩, t4, t5⟩ := st
    refine wpAny_pyNext_zip_end (I.ok.hd hc) D t1 t2 t3 t4 t5 p.isList p2.isList ?_ fun h' a7 => ⟨rfl, ?_⟩
    · rcases hend with e | e
      · left; simp [← rv.length, e]
      · right; simp [← rv2.length, e]
    · refine Inv.turnedL (t' := s.toks) (h' := h') [z, TO, i1, i2] I (fun b o hb e => ?_) (fun c hc => hf c (by simp only [List.mem_cons, List.not_mem_nil, or_false] at hc ⊢; rcases hc with e | e | e | e <;> simp [e]))
      simp only [List.mem_cons, List.not_mem_nil, or_false, not_or] at hb
      obtain ⟨n1, n2, n3, n4⟩ := hb
      exact a7 b o n1 n2 n3 n4 e
  self := fun _ _ _ _ _ st h => wpAny_pyIter_zip st.1 h
def iZip (K : PySem.W.Frag) (ta : TA) : TI := fun σ H R => ta σ H fun vs H1 => ∃ a b xs ys, vs = [.ref a, .ref b] ∧ SqL K H1 a xs ∧ SqL K H1 b ys ∧ R (Itz K a b) H1
theorem pi_zip {X : Cx} {elts : List Expr} {x1 : Nat} {tpos : Pos} {a b : Expr} {ta : TA} {p pos : Pos} (hg : Gl X "zip") (hm : X.mg "zip" = none) (ha : PA X [a, b] ta) (hs : starEach [a, b] X.env = (false, eval a X.env) :: starEach [b] X.env := by rfl) (hpl : (backTo pos (starEach [b] X.env)).any (·.1) = false := by rfl) :
    PI X (.Tuple elts x1 tpos) (.Call (.Name "zip" p) [a, b] [] pos) (iZip X.K ta) := by
  intro pins s σ H R I h
  refine Call_ (ld_blt I hg hm bo_zip (PyProof.Rows.callWith_type1 (thn (ha pos pins s σ H _ I h) fun us s1 ⟨vs, H1, I1, r1, q1⟩ => ?_) hs hpl))
  obtain ⟨l1, l2, xs, ys, e, hq, hq2, q⟩ := q1
  subst e
  obtain ⟨u1, u2, rfl, ru1, ru2⟩ := vals2 r1
  cases (show u1 = Value.ref l1 from ru1)
  cases (show u2 = Value.ref l2 from ru2)
  obtain ⟨its, rv, pl, hz⟩ := I1.list hq
  obtain ⟨its2, rv2, pl2, hz2⟩ := I1.list hq2
  have lt1 : l1 < s1.heap.objs.size := by obtain ⟨o, e, _⟩ := pl.isList; exact Heap.lt_size e
  have lt2 : l2 < s1.heap.objs.size := by obtain ⟨o, e, _⟩ := pl2.isList; exact Heap.lt_size e
  refine call_zip_2 pl.isList pl2.isList fun h' z1 z2 z3 z4 z5 z6 z7 => ?_
  have I2 : Inv X pins σ H1 { s1 with heap := h' } := I1.kept (t' := s1.toks) z7
  refine wpAny_pyIter_zip z1 ?_
  have D : ZipApart (s1.heap.objs.size + 4) (s1.heap.objs.size + 2) (s1.heap.objs.size + 3) s1.heap.objs.size (s1.heap.objs.size + 1) l1 l2 := by
    have q1 : @LT.lt Nat _ l1 s1.heap.objs.size := lt1
    have q2 : @LT.lt Nat _ l2 s1.heap.objs.size := lt2
    constructor <;> (show ¬ @Eq Nat _ _; omega)
  refine ⟨s1.heap.objs.size + 4, _, _, _, H1, rfl, I2, turn_zip D, ⟨z1, z2, ⟨_, _, z3⟩, z4, z5⟩, fun c hc => ?_, q⟩
  have hle : s1.heap.objs.size ≤ c := by
    simp only [List.mem_cons, List.not_mem_nil, or_false] at hc
    show (s1.heap.objs.size : Nat) ≤ c
    rcases hc with e | e | e | e | e <;> subst e <;> (show @LE.le Nat _ _ _; omega)
  exact I1.fpOk hle (I1.hok.fresh hle)
end L2
set_option Elab.async false
set_option linter.all false
set_option maxRecDepth 100000
set_option maxHeartbeats 1000000
namespace L2
open PySem PySem.Spec PyProof.Rows
theorem bo_enumerate : bootBuiltins "enumerate" = some (.type "enumerate") := by decide +kernel
def Ite (K : PySem.W.Frag) (a : Addr) : It :=
  ⟨fun i H => ∃ xs, SqL K H a xs ∧ i < xs.length,
   fun i H x H' => ∃ T u, x = .ref T ∧ H T = none ∧ H' = upd H T (.tup [.int (i : Int), u]) ∧ (∀ xs, SqL K H a xs → xs[i]? = some u),
   fun i H => ∃ xs, SqL K H a xs ∧ xs.length ≤ i⟩
theorem turn_enum {P : Program} {w : World} {K : PySem.W.Frag} {elts : List Expr} {x1 : Nat} {pos : Pos} {e it a : Addr} (hne : e ≠ it) : Turn P w K (.Tuple elts x1 pos) (Ite K a) [e, it] e (fun i h => (∃ old, IsEnum h e it (i : Int) old) ∧ h.IsListIter it a i) where
  mem := by simp
  obj := fun i h st c hc => by
    obtain ⟨⟨old, t1⟩, ⟨o2, e2, c2, d2⟩⟩ := st
    simp only [List.mem_cons, List.not_mem_nil, or_false] at hc
    rcases hc with z | z <;> subst z
    · exact ⟨_, t1, fun v q => by cases q⟩
    · exact ⟨o2, e2, fun v q => by rw [d2] at q; cases q⟩
  keep := fun i h h' st k => by
    obtain ⟨⟨old, t1⟩, t2⟩ := st
    exact ⟨⟨old, k e (by simp) _ t1⟩, t2.at fun o z => k it (by simp) o z⟩
  item := by
    intro X hP hw hK hc i pins s σ H E I hf st hg
    subst hP hw hK
    obtain ⟨xs, hq, hi⟩ := hg
    obtain ⟨its, rv, p, hz⟩ := I.list hq
    obtain ⟨u, hu, ru⟩ := rv.get (List.getElem?_eq_getElem hi)
    obtain ⟨⟨old, t1⟩, t2⟩ := st
    have hl1 : e < s.heap.objs.size := Heap.lt_size t1
    have hl2 : it < s.heap.objs.size := by obtain ⟨o, z, _⟩ := t2; exact Heap.lt_size z
    refine wpAny_pyNext_enum_item t1 t2 p.isList (x := u) (by simpa using hu) hne fun h' a1 a2 a3 a4 a5 => ⟨_, rfl, ?_⟩
    refine wpAny_letOwnedTupleGo_enum (s := { s with heap := h', toks := s.toks + 1 }) a1 fun h2 b1 b2 => ?_
    have hT0 : H s.heap.objs.size = none := I.hok.fresh (Nat.le_refl _)
    have I1 : Inv X pins σ (upd H s.heap.objs.size (.tup [.int (i : Int), xs[i]])) { s with heap := s.heap.push { cls := .type "tuple", data := .seq [Value.int (i : Int) s.toks, u].toArray } } :=
      I.laid (t' := s.toks) (fun b o z => Heap.get?_push_of_some _ z) (Nat.le_refl _) (show ObjOk X.prog X.w _ _ _ (.tup [.int (i : Int), xs[i]]) from ⟨le_size (by show 2 ≤ 1000; decide), [Value.int (i : Int) s.toks, u], .cons ⟨_, rfl⟩ (.cons ru .nil), IsTup.new _ _⟩)
    have fpk : ∀ c ∈ [e, it], c ≠ s.heap.objs.size := fun c hc => by
      simp only [List.mem_cons, List.not_mem_nil, or_false] at hc
      rcases hc with z | z <;> subst z <;> exact Nat.ne_of_lt (by assumption)
    have fp2 : ∀ c ∈ [e, it], FpOk X pins (upd H s.heap.objs.size (.tup [.int (i : Int), xs[i]])) c := fun c hc => by
      obtain ⟨f0, f⟩ := hf c hc
      exact ⟨by rw [upd_ne (fpk c hc)]; exact f0, f⟩
    have I2 : Inv X pins σ (upd H s.heap.objs.size (.tup [.int (i : Int), xs[i]])) { s with heap := h2, toks := s.toks + 1 } := by
      refine Inv.turnedL (s := { s with heap := s.heap.push { cls := .type "tuple", data := .seq [Value.int (i : Int) s.toks, u].toArray } }) (t' := s.toks + 1) (h' := h2) [e, it] I1 (fun b o hb z => ?_) fp2
      simp only [List.mem_cons, List.not_mem_nil, or_false, not_or] at hb
      obtain ⟨n1, n2⟩ := hb
      refine (b2.2 b n1).trans ?_
      by_cases hT : b = s.heap.objs.size
      · subst hT
        rw [Heap.get?_push_size _ rfl] at z
        rw [← z]
        exact a3
      · exact a5 b o n1 n2 (get_push_ne hT z)
    have e1 : ((i : Int) + 1) = ((i + 1 : Nat) : Int) := by omega
    rw [e1] at b1
    refine ⟨.ref s.heap.objs.size, _, I2, rfl, ⟨_, xs[i], rfl, hT0, rfl, fun zs h => ?_⟩, ⟨⟨_, b1⟩, a2.at fun o z => (b2.2 _ hne.symm).trans z⟩, fun c hc => (fp2 c hc).1⟩
    rw [I.list_inj h hq]; exact List.getElem?_eq_getElem hi
  done := by
    intro X hP hw hK hc i pins s σ H E I hf st hg
    subst hP hw hK
    obtain ⟨xs, hq, hend⟩ := hg
    obtain ⟨its, rv, p, hz⟩ := I.list hq
    obtain ⟨⟨old, t1⟩, t2⟩ := st
    refine wpAny_pyNext_enum_end (I.ok.hd hc) t1 t2 p.isList (by simp [← rv.length, hend]) fun h' a7 => ⟨rfl, ?_⟩
    refine Inv.turnedL (t' := s.toks) (h' := h') [it] I (fun b o hb z => a7 b o (by simpa using hb) z) (fun c hc => hf c (by simp only [List.mem_cons, List.not_mem_nil, or_false] at hc ⊢; exact .inr hc))
  self := fun _ i s _ _ st h => by
    obtain ⟨⟨old, t1⟩, t2⟩ := st
    exact wpAny_pyIter_enum t1 h
def iEnum (K : PySem.W.Frag) (ta : TA) : TI := fun σ H R => ta σ H fun vs H1 => ∃ a xs, vs = [.ref a] ∧ SqL K H1 a xs ∧ R (Ite K a) H1
theorem pi_enum {X : Cx} {elts : List Expr} {x1 : Nat} {tpos : Pos} {a : Expr} {ta : TA} {p pos : Pos} (hg : Gl X "enumerate") (hm : X.mg "enumerate" = none) (ha : PA X [a] ta) (hs : starEach [a] X.env = [(false, eval a X.env)] := by rfl) :
    PI X (.Tuple elts x1 tpos) (.Call (.Name "enumerate" p) [a] [] pos) (iEnum X.K ta) := by
  intro pins s σ H R I h
  refine Call_ (ld_blt I hg hm bo_enumerate (PyProof.Rows.callWith_type1 (thn (ha pos pins s σ H _ I h) fun us s1 ⟨vs, H1, I1, r1, q1⟩ => ?_) hs rfl))
  obtain ⟨l1, xs, e, hq, q⟩ := q1
  subst e
  obtain ⟨u1, rfl, ru1⟩ := vals1 r1
  cases (show u1 = Value.ref l1 from ru1)
  obtain ⟨its, rv, pl, hz⟩ := I1.list hq
  refine call_enumerate_list pl.isList fun h' z1 z2 z3 z4 => ?_
  have I2 : Inv X pins σ H1 { s1 with heap := h' } := I1.kept (t' := s1.toks) z4
  refine wpAny_pyIter_enum z1 ?_
  refine ⟨s1.heap.objs.size + 1, _, _, _, H1, rfl, I2, turn_enum (by show ¬ @Eq Nat _ _; omega), ⟨⟨_, z1⟩, z2⟩, fun c hc => ?_, q⟩
  have hle : s1.heap.objs.size ≤ c := by
    simp only [List.mem_cons, List.not_mem_nil, or_false] at hc
    rcases hc with z | z <;> subst z <;> (show @LE.le Nat _ _ _; omega)
  exact I1.fpOk hle (I1.hok.fresh hle)
section
variable {K : PySem.W.Frag} {σ : St} {H : Hp} {Q : VK}
theorem comp_any {J : It} {nt : Nat} {cs : List Nat} {g : TG} {tt : TT} {te : TE} (n : Nat) (Pv : Addr → Nat → List V → Hp → Prop) (hz : n ≤ sizeLine)
    (hgo : ∀ acc i ys H', i < n → Pv acc i ys H' → J.go i H') (hst : ∀ acc ys H', Pv acc n ys H' → J.stop n H')
    (h0 : ∀ acc, H acc = none → Pv acc 0 [] (upd H acc (.lst []))) (hacc : ∀ acc i ys H', Pv acc i ys H' → H' acc = some (.lst ys) ∧ ys.length ≤ i)
    (hs : ∀ acc i ys H' (ts : St) x H2 (N : List V → St → Hp → Prop), H acc = none → i < n → Pv acc i ys H' → J.yld i H' x H2 → ts.length = nt → (∀ zs (ts' : St) H3, ts'.length = nt → Pv acc (i + 1) zs H3 → N zs (ts' ++ capV cs σ) H3) →
      g x (ts ++ capV cs σ) H2 fun σ3 H3 => tt σ3 H3 fun b H4 => if b = true then te σ3 H4 fun y H5 => H5 acc = some (.lst ys) ∧ N (ys ++ [y]) σ3 (upd H5 acc (.lst (ys ++ [y]))) else N ys σ3 H4)
    (hd : ∀ acc ys H', H acc = none → Pv acc n ys H' → Q (.ref acc) H') : CompIt J nt cs g tt te σ H Q := by
  intro acc hn
  refine ⟨fun i m ys σ' H' => m = n - i ∧ i ≤ n ∧ (∃ ts : St, ts.length = nt ∧ σ' = ts ++ capV cs σ) ∧ Pv acc i ys H', ⟨_, rfl, Nat.zero_le _, ⟨List.replicate nt none, List.length_replicate, rfl⟩, h0 acc hn⟩, ?_⟩
  rintro i m ys σ' H' ⟨rfl, hi, ⟨ts, hts, rfl⟩, p⟩
  obtain ⟨ha, hl⟩ := hacc acc i ys H' p
  refine ⟨ha, ?_⟩
  by_cases hlt : i < n
  · refine .inr ⟨hgo acc i ys H' hlt p, by omega, fun zs σ2 H2 => (∃ ts : St, ts.length = nt ∧ σ2 = ts ++ capV cs σ) ∧ Pv acc (i + 1) zs H2, fun zs σ2 H2 ⟨q1, q2⟩ => ⟨n - (i + 1), by omega, rfl, hlt, q1, q2⟩, fun x H2 y => ?_⟩
    exact hs acc i ys H' ts x H2 (fun zs σ2 H2 => (∃ ts : St, ts.length = nt ∧ σ2 = ts ++ capV cs σ) ∧ Pv acc (i + 1) zs H2) hn hlt p y hts fun zs ts' H3 h1 h2 => ⟨⟨ts', h1, rfl⟩, h2⟩
  · have e : i = n := by omega
    subst e
    exact .inl ⟨hst acc ys H' p, hd acc ys H' hn p⟩
theorem w_compE {ta : TA} {nt : Nat} {cs : List Nat} {g : TG} {tt : TT} {te : TE} : tComp (iEnum K ta) nt cs g tt te σ H Q = (ta σ H fun vs H1 => ∃ a xs, vs = [.ref a] ∧ SqL K H1 a xs ∧ CompIt (Ite K a) nt cs g tt te σ H1 Q) := rfl
theorem w_compZ {ta : TA} {nt : Nat} {cs : List Nat} {g : TG} {tt : TT} {te : TE} : tComp (iZip K ta) nt cs g tt te σ H Q = (ta σ H fun vs H1 => ∃ a b xs ys, vs = [.ref a, .ref b] ∧ SqL K H1 a xs ∧ SqL K H1 b ys ∧ CompIt (Itz K a b) nt cs g tt te σ H1 Q) := rfl
end
def Itr3 (lo c : Int) (n : Nat) : It := ⟨fun i _ => i < n, fun i H x H' => H' = H ∧ x = .int (lo + i * c), fun i _ => n ≤ i⟩
theorem turn_range3 {P : Program} {w : World} {K : PySem.W.Frag} {tg : Expr} (it : Addr) (lo c : Int) (n : Nat) : Turn P w K tg (Itr3 lo c n) [it] it (fun i h => IsRangeIter h it (lo + (i : Nat) * c) ((n : Int) - (i : Nat)) c) where
  mem := by simp
  obj := fun i h st b hb => by
    have e : b = it := by simpa using hb
    subst e
    exact ⟨_, st, fun v z => by
      have z' : Data.fields _ = Data.cell v := z
      cases z'⟩
  keep := fun i h h' st k => k it (by simp) _ st
  item := by
    intro X hP hw hK hc i pins s σ H E I hf st hg
    subst hP hw hK
    obtain ⟨f0, f1, f2, f3, f4, f5⟩ := hf it (by simp)
    have W := Walks.range (prog := X.prog) (w := X.w) (I.ok.hd hc) it lo c n
    refine W.item i s _ _ hg st fun v h' tk hv st' kk => ?_
    obtain ⟨t, rfl⟩ := hv
    have I1 : Inv X pins σ H { s with heap := h', toks := tk } := I.turned (fun b o hb e => kk b o (by simpa using hb) e) f0 f1 f3 f4 f5
    exact ⟨_, rfl, go_of (s := { s with heap := h', toks := tk }) (n := "range_iterator") st' rfl rfl (by decide) ⟨.int (lo + i * c), H, I1, ⟨t, rfl⟩, ⟨rfl, rfl⟩, st', fun b hb => (hf b hb).1⟩⟩
  done := by
    intro X hP hw hK hc i pins s σ H E I hf st hg
    subst hP hw hK
    obtain ⟨f0, f1, f2, f3, f4, f5⟩ := hf it (by simp)
    exact wpAny_pyNext_range_end (I.ok.hd hc) st (by have : n ≤ i := hg; omega) fun h' eb => ⟨rfl, I.turned (t' := s.toks) (fun b o hb e => eb b o hb e) f0 f1 f3 f4 f5⟩
  self := fun _ _ _ _ _ st h => wpAny_pyIter_rangeiter st h
def stepN (lo hi c : Int) : Nat := (Builtin.Range.rangeSize lo hi c).toNat
def iRng3 (ta : TA) : TI := fun σ H R => ta σ H fun vs H1 => ∃ i j c : Int, vs = [.int i, .int j, .int c] ∧ (0 ≤ i ∧ i < 2 ^ 31 ∧ -1 ≤ j ∧ j < 2 ^ 31 ∧ c = 2) ∧ R (Itr3 i c (stepN i j c)) H1
def ForR3 (lo c : Int) (n : Nat) (g : TG) (tb : TS) (D : Ends) (σ : St) (H : Hp) : Prop := ∃ W : Nat → Nat → St → Hp → Prop, (∃ m, W 0 m σ H) ∧ ∀ i m σ H, W i m σ H →
  ((Itr3 lo c n).stop i H ∧ D.nx σ H) ∨ ((Itr3 lo c n).go i H ∧ ∃ N : St → Hp → Prop, (∀ σ' H', N σ' H' → ∃ m', m' < m ∧ W (i + 1) m' σ' H') ∧ ∀ x H', (Itr3 lo c n).yld i H x H' → g x σ H' fun σ2 H2 => tb { D with nx := N, ct := N, bk := D.nx } σ2 H2)
section
variable {σ : St} {H : Hp} {D : Ends} {g : TG} {tb : TS} {lo c : Int} {n : Nat}
theorem w_for3 {ta : TA} : tFor (iRng3 ta) g tb D σ H = (ta σ H fun vs H1 => ∃ i j c : Int, vs = [.int i, .int j, .int c] ∧ (0 ≤ i ∧ i < 2 ^ 31 ∧ -1 ≤ j ∧ j < 2 ^ 31 ∧ c = 2) ∧ ForR3 i c (stepN i j c) g tb D σ H1) := rfl
theorem forR3 (Pv : Nat → St → Hp → Prop) (h0 : Pv 0 σ H) (hs : ∀ i σ H (N : St → Hp → Prop), i < n → Pv i σ H → (∀ σ' H', Pv (i + 1) σ' H' → N σ' H') → g (.int (lo + i * c)) σ H fun σ2 H2 => tb { D with nx := N, ct := N, bk := D.nx } σ2 H2)
    (hd : ∀ σ H, Pv n σ H → D.nx σ H) : ForR3 lo c n g tb D σ H := by
  refine ⟨fun i m σ H => m = n - i ∧ i ≤ n ∧ Pv i σ H, ⟨n, by simp, Nat.zero_le _, h0⟩, ?_⟩
  rintro i m σ H ⟨rfl, hi, p⟩
  by_cases hlt : i < n
  · refine .inr ⟨hlt, Pv (i + 1), fun σ' H' p' => ⟨n - (i + 1), by omega, rfl, hlt, p'⟩, fun x H' y => ?_⟩
    obtain ⟨e, rfl⟩ := y
    subst e
    exact hs i σ _ (Pv (i + 1)) hlt p fun _ _ z => z
  · have e : i = n := by omega
    subst e
    exact .inl ⟨Nat.le_refl _, hd σ H p⟩
end
end L2
set_option Elab.async false
set_option linter.all false
set_option maxRecDepth 100000
set_option maxHeartbeats 1000000
namespace L2
open PySem PySem.Spec
theorem get_snoc {α : Type} {xs : List α} {x y : α} {i : Nat} (h : (xs ++ [x])[i]? = some y) : (i < xs.length ∧ xs[i]? = some y) ∨ (i = xs.length ∧ y = x) := by
  by_cases hi : i < xs.length
  · rw [List.getElem?_append_left hi] at h
    exact .inl ⟨hi, h⟩
  · rw [List.getElem?_append_right (by omega)] at h
    have hz : i - xs.length = 0 := by
      cases hk : i - xs.length with
      | zero => rfl
      | succ m => rw [hk] at h; simp at h
    rw [hz] at h
    cases h
    exact .inr ⟨by omega, rfl⟩
end L2
set_option Elab.async false
set_option linter.all false
set_option maxRecDepth 100000
set_option maxHeartbeats 1000000
namespace L2
open PySem PySem.Spec PyProof.Rows
def gTupK (K : PySem.W.Frag) (n : Nat) (t : TGs) : TG := gTup K n t
theorem pg_tupK {X : Cx} (K : PySem.W.Frag) {es : List Expr} {k : Nat} {t : TGs} {pos : Pos} (n : Nat) (hc : X.calm = true) (h : PGs X es t) (hK : X.K = K := by rfl) (hn : (assignEach es X.env).length = n := by rfl) (hst : (assignEach es X.env).findIdx? (·.1) = none := by rfl) : PG X (.Tuple es k pos) (gTupK K n t) := by
  subst hK
  exact pg_tup (X := X) (n := n) hc h hn hst
section
variable {K : PySem.W.Frag} {σ : St} {H : Hp} {R : St → Hp → Prop}
theorem w_gTupK {n : Nat} {t : TGs} {a : Addr} : gTupK K n t (.ref a) σ H R = ∃ xs, SqT K H a xs ∧ xs.length = n ∧ t xs σ H R :=
  propext ⟨fun ⟨a', xs, e, h, l, q⟩ => by cases e; exact ⟨xs, h, l, q⟩, fun ⟨xs, h, l, q⟩ => ⟨a, xs, rfl, h, l, q⟩⟩
end
end L2
set_option Elab.async false
set_option linter.all false
set_option maxRecDepth 100000
set_option maxHeartbeats 1000000
namespace L2
open PySem PySem.Spec PyProof.Rows
theorem draw_walk {prog : Program} {w : World} {A : Around} {E : Value → Shared → Prop} {I : Addr} {fp wr : List Addr} {n : Nat} {P : Nat → Value → Prop} {St : Nat → Heap → Prop} (W : Walks prog w A I fp wr n P St) : ∀ (k i : Nat) (s : Shared) (Q : List Value → Shared → Prop), i + k ≤ n → St i s.heap →
    (∀ vs h' tk, vs.length = k → (∀ (j : Nat) (v : Value), vs[j]? = some v → P (i + j) v) → St (i + k) h' → (∀ b o, b ∉ wr → s.heap.get? b = some o → h'.get? b = some o) → Q vs { s with heap := h', toks := tk }) → wpAny (model prog w) A (draw (.ref I) k) Q E s
  | 0, i, s, Q, hle, st, hQ => by
    show wpAny _ _ (pure []) Q E s
    exact wpAny_pure (hQ [] s.heap s.toks rfl (fun j v h => by simp at h) st fun _ _ _ e => e)
  | k + 1, i, s, Q, hle, st, hQ => by
    show wpAny _ _ (pyNext (.ref I) >>= _) Q E s
    refine wpAny_bind (W.item i s _ _ (by omega) st fun v h' tk hP st' hk => ?_)
    refine wpAny_bind (wpAny_holding (draw_walk W k (i + 1) _ _ (by omega) st' fun vs h2 tk2 hl hv st2 hk2 => wpAny_pure ?_))
    refine hQ (v :: vs) h2 tk2 (by rw [List.length_cons, hl]) (fun j u hj => ?_) (by rw [show i + (k + 1) = i + 1 + k by omega]; exact st2) fun b o hb e => hk2 b o hb (hk b o hb e)
    cases j with
    | zero => cases hj; exact hP
    | succ j =>
      rw [List.getElem?_cons_succ] at hj
      have := hv j u hj
      rw [show i + (j + 1) = i + 1 + j by omega]
      exact this
theorem vals_at : ∀ {xs : List V} {its us : List Value}, Vals xs its → us.length = its.length → (∀ (j : Nat) (v : Value), us[j]? = some v → its[j]? = some v) → us = its
  | _, its, us, _, hl, h => by
    refine List.ext_getElem? fun j => ?_
    by_cases hj : j < us.length
    · rw [List.getElem?_eq_getElem hj, h j _ (List.getElem?_eq_getElem hj)]
    · rw [List.getElem?_eq_none (by omega), List.getElem?_eq_none (by omega)]
section
variable {X : Cx} {pins : List (Addr × Obj)} {σ : St} {H : Hp} {s : Shared} {p : Addr} {xs : List V}
theorem unpack_list (hc : X.calm = true) (I : Inv X pins σ H s) (hp : H p = some (.lst xs)) {Q : List Value → Shared → Prop} {E : Value → Shared → Prop} (h : ∀ its s', Vals xs its → Inv X pins σ H s' → Q its s') :
    wpAny (model X.prog X.w) X.A (unpackItems (.ref p) xs.length none) Q E s := by
  obtain ⟨its0, rv0, pl, _⟩ := I.list (SqL.of hp)
  unfold unpackItems
  refine wpAny_bind ?_
  unfold notIterableAtAll
  refine wpAny_bind (wpAny_specialOf pl.isList.typeIs slot_list_iter.lookup ?_)
  refine wpAny_pure ?_
  simp only [Bool.false_eq_true, if_false]
  refine wpAny_bind (wpAny_holding (wpAny_of_in1 (walk_list hc I hp fun its rv s2 st hfp hne W hI => ?_)))
  have W2 := W.of_in1
  have hl : its.toArray.size = xs.length := by rw [List.size_toArray, ← rv.length]
  refine wpAny_bind (wpAny_holding (draw_walk W2 xs.length 0 s2 _ (by rw [hl]; omega) st fun vs h1 tk1 hvl hv st1 hk1 => ?_))
  have ev : vs = its := vals_at rv (by rw [hvl, rv.length]) fun j v hj => by
    have := hv j v hj
    rw [Nat.zero_add] at this
    simpa using this
  subst ev
  rw [if_neg (by rw [← rv.length]; exact Nat.lt_irrefl _)]
  refine wpAny_bind (wpAny_holding (W2.done _ _ _ (by rw [hl]; rw [Nat.zero_add] at st1; exact st1) fun h2 tk2 hk2 => ?_))
  simp only [Option.isSome_none, Bool.false_eq_true, if_false]
  exact wpAny_pure (h _ _ rv (hI h2 tk2 fun b o hb e => hk2 b o hb (hk1 b o hb e)))
def gLst (n : Nat) (t : TGs) : TG := fun v σ H Q => ∃ a xs, v = .ref a ∧ H a = some (.lst xs) ∧ xs.length = n ∧ t xs σ H Q
theorem pg_lst {es : List Expr} {k : Nat} {t : TGs} {pos : Pos} (n : Nat) (hc : X.calm = true) (h : PGs X es t) (hn : (assignEach es X.env).length = n := by rfl) (hst : (assignEach es X.env).findIdx? (·.1) = none := by rfl) : PG X (.Tuple es k pos) (gLst n t) := by
  intro pins s σ H v u Q I r hw
  obtain ⟨a, xs, e1, hq, hl, hw⟩ := hw
  subst e1
  cases r
  rw [PyProof.Rows.assign_Tuple]
  refine wpAny_bind (wpAny_standAt ?_)
  unfold unpack
  rw [hst, hn, ← hl]
  exact wpAny_bind (wpAny_holding (unpack_list hc I hq fun its s' rv I1 => h pins s' σ H xs its Q I1 rv hw))
end
section
variable {σ : St} {H : Hp} {R : St → Hp → Prop}
theorem w_gLst {n : Nat} {t : TGs} {a : Addr} : gLst n t (.ref a) σ H R = ∃ xs, H a = some (.lst xs) ∧ xs.length = n ∧ t xs σ H R :=
  propext ⟨fun ⟨a', xs, e, h, l, q⟩ => by cases e; exact ⟨xs, h, l, q⟩, fun ⟨xs, h, l, q⟩ => ⟨a, xs, rfl, h, l, q⟩⟩
end
def ForE (K : PySem.W.Frag) (a : Addr) (g : TG) (tb : TS) (D : Ends) (σ : St) (H : Hp) : Prop := ∃ W : Nat → Nat → St → Hp → Prop, (∃ m, W 0 m σ H) ∧ ∀ i m σ H, W i m σ H →
  ((Ite K a).stop i H ∧ D.nx σ H) ∨ ((Ite K a).go i H ∧ ∃ N : St → Hp → Prop, (∀ σ' H', N σ' H' → ∃ m', m' < m ∧ W (i + 1) m' σ' H') ∧ ∀ x H', (Ite K a).yld i H x H' → g x σ H' fun σ2 H2 => tb { D with nx := N, ct := N, bk := D.nx } σ2 H2)
section
variable {K : PySem.W.Frag} {σ : St} {H : Hp} {D : Ends} {g : TG} {tb : TS} {a : Addr}
theorem w_forE {ta : TA} : tFor (iEnum K ta) g tb D σ H = (ta σ H fun vs H1 => ∃ a xs, vs = [.ref a] ∧ SqL K H1 a xs ∧ ForE K a g tb D σ H1) := rfl
theorem forE {xs : List V} (Pv : Nat → St → Hp → Prop) (h0 : Pv 0 σ H) (hl : ∀ i σ H, i ≤ xs.length → Pv i σ H → SqL K H a xs)
    (hs : ∀ i x T σ H (N : St → Hp → Prop), xs[i]? = some x → H T = none → Pv i σ H → (∀ σ' H', Pv (i + 1) σ' H' → N σ' H') → g (.ref T) σ (upd H T (.tup [.int (i : Int), x])) fun σ2 H2 => tb { D with nx := N, ct := N, bk := D.nx } σ2 H2)
    (hd : ∀ σ H, Pv xs.length σ H → D.nx σ H) : ForE K a g tb D σ H := by
  refine ⟨fun i m σ H => m = xs.length - i ∧ i ≤ xs.length ∧ Pv i σ H, ⟨_, rfl, Nat.zero_le _, h0⟩, ?_⟩
  rintro i m σ H ⟨rfl, hi, p⟩
  have q := hl i σ H hi p
  by_cases hlt : i < xs.length
  · refine .inr ⟨⟨xs, q, hlt⟩, Pv (i + 1), fun σ' H' p' => ⟨xs.length - (i + 1), by omega, rfl, hlt, p'⟩, fun x H' y => ?_⟩
    obtain ⟨T, u, rfl, hT, rfl, hu⟩ := y
    exact hs i u T σ H (Pv (i + 1)) (hu xs q) hT p fun _ _ z => z
  · have e : i = xs.length := by omega
    subst e
    exact .inl ⟨⟨xs, q, Nat.le_refl _⟩, hd σ H p⟩
end
end L2
set_option Elab.async false
set_option linter.all false
set_option maxRecDepth 100000
set_option maxHeartbeats 1000000
namespace L2
open PySem PySem.Spec
def LPen (H : Hp) (p a : Addr) (c : Int) : Prop := ∃ t l : Int, H p = some (.lst [.ref a, .int t, .int l]) ∧ 0 ≤ t ∧ t ≤ c ∧ 0 ≤ l
theorem LPen.mono {H : Hp} {p a : Addr} {c d : Int} (h : LPen H p a c) (l : c ≤ d) : LPen H p a d := by
  obtain ⟨t, x, e, h0, h1, h2⟩ := h
  exact ⟨t, x, e, h0, by omega, h2⟩
theorem LPen.same {H H' : Hp} {p a : Addr} {c : Int} (h : LPen H p a c) (s : Same H H') : LPen H' p a c := by
  obtain ⟨t, x, e, r⟩ := h
  exact ⟨t, x, s _ _ e, r⟩
theorem LPen.lst {H : Hp} {p a : Addr} {c : Int} (h : LPen H p a c) : ∃ xs, H p = some (.lst xs) := by
  obtain ⟨t, x, e, r⟩ := h
  exact ⟨_, e⟩
theorem LPen.ne {H : Hp} {p a q : Addr} {c : Int} (h : LPen H p a c) (hq : H q = none) : q ≠ p := by
  obtain ⟨xs, h⟩ := h.lst
  exact (ne_of_none h hq).symm
theorem LPen.chg {H H' : Hp} {p a q : Addr} {c : Int} (h : LPen H p a c) (n : p ≠ q) (s : Chg q H H') : LPen H' p a c := by
  obtain ⟨t, x, e, r⟩ := h
  exact ⟨t, x, s _ _ n e, r⟩
theorem lpen_of {H : Hp} {p a : Addr} {t l c : Int} (h0 : 0 ≤ t) (h1 : t ≤ c) (h2 : 0 ≤ l) : LPen (upd H p (.lst [.ref a, .int t, .int l])) p a c := ⟨t, l, upd_same, h0, h1, h2⟩
theorem Scr.lpen {K : PySem.W.Frag} {H H' : Hp} {p a : Addr} {c : Int} {ns : List Int} (h : Scr K H a ns) (hp : LPen H p a c) (s : Chg p H H') : Scr K H' a ns := by
  obtain ⟨xs, e⟩ := hp.lst
  exact h.chg e s
def spLPen (K : PySem.W.Frag) : Sp := fun vs H Q _ => ∃ (a : Addr), vs = [.ref a] ∧ ∀ p H', H p = none → Same H H' → LPen H' p a 0 → Q (.ref p) H'
def spLTake (K : PySem.W.Frag) : Sp := fun vs H Q _ => ∃ (p a : Addr) (ns : List Int) (m c : Int), vs = [.ref p, .int m] ∧ LPen H p a c ∧ Scr K H a ns ∧ ns.length ≤ 63 ∧ c ≤ 1000000000 ∧ 1 ≤ m ∧ m < 2 ^ 64 ∧
  ∀ (r : Int) H', 0 ≤ r → r < m → LPen H' p a (c + 1) → Scr K H' a ns → Chg p H H' → Q (.int r) H'
theorem ltake_ {K : PySem.W.Frag} {H : Hp} {p a : Addr} {ns : List Int} {m c : Int} {Q : VK} {E : XK} (hP : LPen H p a c) (hS : Scr K H a ns) (h63 : ns.length ≤ 63) (hc : c ≤ 1000000000) (h1 : 1 ≤ m) (h2 : m < 2 ^ 64)
    (q : ∀ (r : Int) H', 0 ≤ r → r < m → LPen H' p a (c + 1) → Scr K H' a ns → Chg p H H' → Q (.int r) H') : spLTake K [.ref p, .int m] H Q E := ⟨p, a, ns, m, c, rfl, hP, hS, h63, hc, h1, h2, q⟩
def mvI (s n : Int) : Int := n * 2 ^ (if 0 > s then (0 : Int) else s).toNat / 2 ^ (if 0 > 0 - s then (0 : Int) else 0 - s).toNat
end L2
set_option Elab.async false
set_option linter.all false
set_option maxRecDepth 100000
set_option maxHeartbeats 1000000
namespace L2
open PySem PySem.Spec
structure Wd where
  w : Str
  a : Nat
  s : Int
  b : Nat
  t : Int
structure Go where
  th : Nat
  sh : Int
  sg : Int
def wTup (d : Wd) : List V := [.str d.w, .int d.a, .int d.s, .int d.b, .int d.t]
def gTp (g : Go) : List V := [.int g.th, .int g.sh, .int g.sg]
structure HTs {α : Type} (f : α → List V) (H : Hp) (vs : List V) (xs : List α) : Prop where
  len : vs.length = xs.length
  at_ : ∀ (k : Nat) (x : α), xs[k]? = some x → ∃ p : Addr, vs[k]? = some (.ref p) ∧ H p = some (.tup (f x))
section
variable {α : Type} {f : α → List V} {H H' : Hp} {vs us : List V} {xs : List α} {l : Addr}
theorem HTs.same (h : HTs f H vs xs) (s : Same H H') : HTs f H' vs xs := ⟨h.len, fun k d e => by
  obtain ⟨x, e1, e2⟩ := h.at_ k d e
  exact ⟨x, e1, s _ _ e2⟩⟩
theorem HTs.chgL (h : HTs f H vs xs) (hl : H l = some (.lst us)) (c : Chg l H H') : HTs f H' vs xs := ⟨h.len, fun k d e => by
  obtain ⟨x, e1, e2⟩ := h.at_ k d e
  exact ⟨x, e1, c _ _ (ne_of e2 hl (by intro z; cases z)) e2⟩⟩
theorem HTs.snoc {x : α} {p : Addr} (h : HTs f H vs xs) (hx : H p = some (.tup (f x))) : HTs f H (vs ++ [.ref p]) (xs ++ [x]) := by
  refine ⟨by simp [h.len], fun k e he => ?_⟩
  rcases get_snoc he with ⟨hk, z⟩ | ⟨hk, rfl⟩
  · obtain ⟨y, e1, e2⟩ := h.at_ k e z
    exact ⟨y, by rw [List.getElem?_append_left (by rw [h.len]; exact hk)]; exact e1, e2⟩
  · refine ⟨p, ?_, hx⟩
    rw [List.getElem?_append_right (by rw [h.len]; omega), h.len, hk, Nat.sub_self]
    rfl
theorem hts_nil : HTs f H [] [] := ⟨rfl, fun k d h => by simp at h⟩
end
structure HRs (H : Hp) (ex : List Addr) (vs : List V) (rs : List (List Int)) : Prop where
  len : vs.length = rs.length
  at_ : ∀ (k : Nat) (r : List Int), rs[k]? = some r → ∃ p : Addr, vs[k]? = some (.ref p) ∧ H p = some (.lst (r.map V.int)) ∧ ∀ e ∈ ex, p ≠ e
section
variable {H H' : Hp} {ex : List Addr} {vs : List V} {rs : List (List Int)} {l : Addr}
theorem HRs.same (h : HRs H ex vs rs) (s : Same H H') : HRs H' ex vs rs := ⟨h.len, fun k d e => by
  obtain ⟨x, e1, e2, e3⟩ := h.at_ k d e
  exact ⟨x, e1, s _ _ e2, e3⟩⟩
theorem HRs.chg (h : HRs H ex vs rs) (hl : l ∈ ex) (c : Chg l H H') : HRs H' ex vs rs := ⟨h.len, fun k d e => by
  obtain ⟨x, e1, e2, e3⟩ := h.at_ k d e
  exact ⟨x, e1, c _ _ (e3 l hl) e2, e3⟩⟩
theorem HRs.snoc {r : List Int} {p : Addr} (h : HRs H ex vs rs) (hx : H p = some (.lst (r.map V.int))) (he : ∀ e ∈ ex, p ≠ e) : HRs H ex (vs ++ [.ref p]) (rs ++ [r]) := by
  refine ⟨by simp [h.len], fun k e he2 => ?_⟩
  rcases get_snoc he2 with ⟨hk, z⟩ | ⟨hk, rfl⟩
  · obtain ⟨y, e1, e2⟩ := h.at_ k e z
    exact ⟨y, by rw [List.getElem?_append_left (by rw [h.len]; exact hk)]; exact e1, e2⟩
  · refine ⟨p, ?_, hx, he⟩
    rw [List.getElem?_append_right (by rw [h.len]; omega), h.len, hk, Nat.sub_self]
    rfl
theorem hrs_nil : HRs H ex [] [] := ⟨rfl, fun k d h => by simp at h⟩
end
def RB (b : Nat) (rs : List (List Int)) : Prop := ∀ r ∈ rs, r.length ≤ 12 ∧ ∀ n ∈ r, n.natAbs ≤ 2 ^ b
structure WebOk (ins : Nat) (ds : List Wd) (gs : List Go) : Prop where
  i1 : 1 ≤ ins
  i2 : ins ≤ 12
  dk : ∀ (k : Nat) (d : Wd), ds[k]? = some d → d.a < ins + k ∧ d.b < ins + k ∧ (d.w = "sum" ∨ d.w = "less")
  gk : ∀ g ∈ gs, g.th < ins + ds.length
  dl : ds.length ≤ 60
  gl : gs.length ≤ 12
end L2
set_option Elab.async false
set_option linter.all false
set_option maxRecDepth 100000
set_option maxHeartbeats 1000000
namespace L2
open PySem PySem.Spec PyProof.Rows
theorem cf_mem : ∀ (names : List (Str × NameKind)) (n : Nat) (acc : List (Str × Addr)) (p : Str × Addr), p ∈ cellsFrom n names acc → p ∈ acc ∨ ((p.1, NameKind.cell) ∈ names ∧ n ≤ p.2)
  | [], _, _, _, h => .inl h
  | (y, k) :: r, n, acc, p, h => by
    unfold cellsFrom at h
    by_cases hk : (k == .cell) = true
    · rw [if_pos hk] at h
      have ek : k = .cell := by simpa using hk
      subst ek
      rcases cf_mem r (n + 1) _ p h with z | ⟨z, l⟩
      · rcases List.mem_cons.mp z with e | e
        · subst e
          exact .inr ⟨List.mem_cons_self, Nat.le_refl _⟩
        · exact .inl e
      · exact .inr ⟨List.mem_cons_of_mem _ z, Nat.le_of_succ_le l⟩
    · rw [if_neg hk] at h
      rcases cf_mem r n acc p h with z | ⟨z, l⟩
      · exact .inl z
      · exact .inr ⟨List.mem_cons_of_mem _ z, l⟩
theorem cf_inj : ∀ (names : List (Str × NameKind)) (n lo : Nat) (acc : List (Str × Addr)), lo ≤ n → (∀ p ∈ acc, (p.2 : Nat) < n) → (∀ (x y : Str) (c : Addr), (x, c) ∈ acc → (y, c) ∈ acc → lo ≤ c → x = y) →
    ∀ (x y : Str) (c : Addr), (x, c) ∈ cellsFrom n names acc → (y, c) ∈ cellsFrom n names acc → lo ≤ c → x = y
  | [], _, _, _, _, _, hi, x, y, c, h1, h2, l => hi x y c h1 h2 l
  | (z, k) :: r, n, lo, acc, hl, hn, hi, x, y, c, h1, h2, l => by
    unfold cellsFrom at h1 h2
    by_cases hk : (k == .cell) = true
    · rw [if_pos hk] at h1 h2
      refine cf_inj r (n + 1) lo _ (Nat.le_succ_of_le hl) (fun p hp => ?_) (fun x y c a b l => ?_) x y c h1 h2 l
      · rcases List.mem_cons.mp hp with e | e
        · subst e; exact Nat.lt_succ_self _
        · exact Nat.lt_succ_of_lt (hn p e)
      · rcases List.mem_cons.mp a with e | e <;> rcases List.mem_cons.mp b with e' | e'
        · rw [(Prod.mk.inj e).1, (Prod.mk.inj e').1]
        · have := hn _ e'
          rw [(Prod.mk.inj e).2] at this
          exact absurd this (Nat.lt_irrefl _)
        · have := hn _ e
          rw [(Prod.mk.inj e').2] at this
          exact absurd this (Nat.lt_irrefl _)
        · exact hi x y c e e' l
    · rw [if_neg hk] at h1 h2
      exact cf_inj r n lo acc hl hn hi x y c h1 h2 l
theorem cf_keep {x : Str} {c : Addr} : ∀ (names : List (Str × NameKind)) (n : Nat) (acc : List (Str × Addr)), acc.lookup x = some c → (x, NameKind.cell) ∉ names → (cellsFrom n names acc).lookup x = some c
  | [], _, _, h, _ => h
  | (y, k) :: r, n, acc, h, hm => by
    unfold cellsFrom
    have hr : (x, NameKind.cell) ∉ r := fun z => hm (List.mem_cons_of_mem _ z)
    by_cases hk : (k == .cell) = true
    · rw [if_pos hk]
      have ek : k = .cell := by simpa using hk
      subst ek
      refine cf_keep r (n + 1) _ ?_ hr
      rw [List.lookup_cons]
      have hne : (x == y) = false := by
        cases e : x == y with
        | false => rfl
        | true => rw [beq_iff_eq.mp e] at hm; exact absurd List.mem_cons_self hm
      rw [hne]
      exact h
    · rw [if_neg hk]
      exact cf_keep r n acc h hr
theorem cf_new : ∀ (names : List (Str × NameKind)) (h : Heap) (acc : List (Str × Addr)) (p : Str × Addr), p ∈ cellsFrom h.objs.size names acc → p ∈ acc ∨ (pushCells h names).IsCell p.2 none
  | [], _, _, _, h => .inl h
  | (y, k) :: r, h, acc, p, hp => by
    unfold cellsFrom at hp
    unfold pushCells
    by_cases hk : (k == .cell) = true
    · rw [if_pos hk] at hp ⊢
      have := cf_new r (h.push { cls := .type "cell", data := .cell none }) ((y, h.objs.size) :: acc) p (by rw [Heap.size_push]; exact hp)
      rcases this with z | z
      · rcases List.mem_cons.mp z with e | e
        · subst e
          exact .inr ⟨_, pushCells_keeps r _ _ _ (Heap.get?_push_size _ rfl), rfl⟩
        · exact .inl e
      · exact .inr z
    · rw [if_neg hk] at hp ⊢
      exact cf_new r h acc p hp
theorem mem_clos2 {scope : Scope} {env : Env} {x : Str} {c : Addr} (m : (x, c) ∈ closOf scope env) : env.cells.lookup x = some c ∧ (x, NameKind.free) ∈ scope.names := by
  unfold closOf at m
  rw [List.mem_reverse, List.mem_filterMap] at m
  obtain ⟨⟨n, k⟩, hy, e⟩ := m
  split at e
  · rename_i hk
    have hk : k = .free := by simpa using hk
    subst hk
    cases q : env.cells.lookup n with
    | none => rw [q] at e; cases e
    | some d =>
      rw [q] at e
      simp only [Option.map_some, Option.some.injEq, Prod.mk.injEq] at e
      rw [← e.1, q, e.2]
      exact ⟨rfl, hy⟩
  · cases e
def compEnvK (scope : Scope) (cl : List (Str × Addr)) (C : Addr) (env : Env) : Env :=
  { scope := relabel scope env, locals := C, globals := env.globals, cells := cellsFrom (C + 1) scope.names cl, qual := env.qual, func := none, code := env.code, frame := env.frame, builtins := env.builtins }
def nfeH (h : Heap) (names : List (Str × NameKind)) : Heap := pushCells (h.push { cls := .type "dict", data := .dict #[] }) names
theorem nfe_cells {M : Model} {A : Around} {E : Value → Shared → Prop} {s : Shared} {scope : Scope} {globals : Addr} {cl : List (Str × Addr)} {qual : Str} {env : Env} {Q : Env → Shared → Prop}
    (hQ : Q { scope := scope, locals := s.heap.objs.size, globals := globals, cells := cellsFrom (s.heap.objs.size + 1) scope.names cl, qual := qual, func := none, code := env.code, frame := env.frame, builtins := env.builtins } { s with heap := nfeH s.heap scope.names }) :
    wpAny M A (newFunctionEnv scope globals cl [] qual none .none (some env)) Q E s := by
  simp only [newFunctionEnv, Option.isSome_some, if_true]
  refine wpAny_bind (wpAny_alloc ?_)
  refine wpAny_bind (wpAny_layCells _ (fun name kind cells => by cases hkc : kind == NameKind.cell <;> simp [hkc]) _ _ _ _ ?_)
  rw [show ({ s with heap := s.heap.push { cls := .type "dict", data := .dict #[] } } : Shared).heap.objs.size = s.heap.objs.size + 1 from Heap.size_push ..]
  rw [List.forIn_nil]
  exact wpAny_bind (wpAny_pure (wpAny_pure hQ))
def compCxC (X : Cx) (N : List Str) (scope : Scope) (C : Addr) (s : Shared) (H : Hp) (fp : List Addr) : Cx :=
  { X with N := N, s₀ := s, H₀ := H, env := compEnvK scope (closOf scope X.env) C X.env, outer := X.stack, stack := X.stack, ex := fp, fn := fun x => scope.names.lookup x == some .cell, pn := [], xe := fun _ _ => False }
def scC (sc xsc : Scope) : Bool := (sc.kind == .function) && sc.names.all fun x => (x.2 != .cell || sc.names.lookup x.1 == some .cell) && (x.2 != .local || sc.names.lookup x.1 == some .local) && (x.2 != .free || ((sc.names.lookup x.1 == some .free) && ((xsc.names.lookup x.1 == some .cell) || (xsc.names.lookup x.1 == some .free))))
section
variable {X : Cx}
theorem compCxC_inv {pins : List (Addr × Obj)} {σ : St} {H : Hp} {s : Shared} {N : List Str} {scope : Scope} {nt : Nat} {cs : List Nat} {fp : List Addr} {tk : Nat} (I : Inv X pins σ H s)
    (hsc : scC scope X.env.scope = true) (hcap : capB cs (N.drop nt) X.N scope X.env.scope = true) (hlen : N.length = nt + cs.length)
    (hf : ∀ b ∈ fp, FpOk X pins H b) (hfl : ∀ b ∈ fp, b < s.heap.objs.size) :
    Inv (compCxC X N scope s.heap.objs.size s H fp) [] (capSt nt cs σ) H { s with heap := nfeH s.heap scope.names, toks := tk } := by
  have hk : ∀ b o, s.heap.get? b = some o → (nfeH s.heap scope.names).get? b = some o := fun b o e => pushCells_keeps _ _ b o (Heap.get?_push_of_some _ e)
  have hn : (nfeH s.heap scope.names).Ns s.heap.objs.size fun _ => none := (Heap.Ns.new s.heap (.type "dict")).keeps (pushCells_keeps _ _)
  unfold scC at hsc
  rw [Bool.and_eq_true] at hsc
  obtain ⟨hkd, hall⟩ := hsc
  have hkd : scope.kind = .function := by simpa using hkd
  rw [List.all_eq_true] at hall
  have cellL : ∀ x, (x, NameKind.cell) ∈ scope.names → scope.names.lookup x = some .cell := fun x hx => by
    have := hall _ hx
    simp only [bne_self_eq_false, Bool.false_or, Bool.and_eq_true, beq_iff_eq] at this
    exact this.1.1
  have freeL : ∀ x, (x, NameKind.free) ∈ scope.names → scope.names.lookup x = some .free := fun x hx => by
    have := hall _ hx
    simp only [bne_self_eq_false, Bool.false_or, Bool.and_eq_true, beq_iff_eq] at this
    exact this.2.1
  have free2 : ∀ x, (x, NameKind.free) ∈ scope.names → X.env.kindOf x = some .cell ∨ X.env.kindOf x = some .free := fun x hx => by
    have := hall _ hx
    simp only [bne_self_eq_false, Bool.false_or, Bool.and_eq_true, Bool.or_eq_true, beq_iff_eq] at this
    exact this.2.2
  have kinds : ∀ x, ((compCxC X N scope s.heap.objs.size s H fp).env.kindOf x = some .cell ∨ (compCxC X N scope s.heap.objs.size s H fp).env.kindOf x = some .free) → scope.names.lookup x = some .cell ∨ (x, NameKind.free) ∈ scope.names := fun x hx => by
    have q : ∃ k, (relabel scope X.env).names.lookup x = some k ∧ (k = .cell ∨ k = .free) := by
      rcases hx with e | e
      · exact ⟨_, e, .inl rfl⟩
      · exact ⟨_, e, .inr rfl⟩
    obtain ⟨k, e, hk'⟩ := q
    obtain ⟨k0, e0, r⟩ := relabel_lookup e
    have m := PySem.mem_of_lookup e0
    rcases r with r | ⟨r, _⟩
    · subst r
      rcases hk' with z | z
      · rw [z] at e0; exact .inl e0
      · rw [z] at m; exact .inr m
    · rw [r] at m; exact .inr m
  have clt : ∀ x c, X.env.cells.lookup x = some c → c < s.heap.objs.size := fun x c e => by
    obtain ⟨v, q⟩ := I.cell x c e
    exact q.lt
  -- a cell of the block: one of the caller's, or one of its own
  have two : ∀ x c, (compCxC X N scope s.heap.objs.size s H fp).env.cells.lookup x = some c → (X.env.cells.lookup x = some c ∧ (x, NameKind.free) ∈ scope.names) ∨ ((x, NameKind.cell) ∈ scope.names ∧ s.heap.objs.size + 1 ≤ c ∧ (nfeH s.heap scope.names).IsCell c none) := fun x c e => by
    have m := PySem.mem_of_lookup e
    rcases cf_mem _ _ _ _ m with z | ⟨z, l⟩
    · exact .inl (mem_clos2 z)
    · refine .inr ⟨z, l, ?_⟩
      have m' : (x, c) ∈ cellsFrom (s.heap.push { cls := .type "dict", data := .dict #[] }).objs.size scope.names (closOf scope X.env) := by rw [Heap.size_push]; exact m
      rcases cf_new _ _ _ _ m' with q | q
      · have := clt x c (mem_clos2 q).1
        exact absurd (Nat.lt_of_lt_of_le this (Nat.le_of_succ_le l)) (Nat.lt_irrefl _)
      · exact q
  refine ⟨⟨I.ok.mod, ?_, I.ok.glob, I.ok.blt, Nat.le_refl _, ?_, ?_, ?_, I.ok.hd, I.ok.frames, .inl rfl, ?_, ?_, ?_, ?_, ?_, ?_, ?_⟩, rfl, I.bare, Un.kept hk, ⟨_, hn, ?_⟩, ?_, ?_, ?_, ?_, I.hok.kept hk, ?_⟩
  · show (relabel scope X.env).kind = _
    exact hkd
  · intro x y c e1 e2
    rcases two x c e1 with ⟨a, _⟩ | ⟨_, a, _⟩ <;> rcases two y c e2 with ⟨b, _⟩ | ⟨_, b, _⟩
    · exact I.ok.inj x y c a b
    · exact absurd (Nat.lt_of_lt_of_le (clt x c a) (Nat.le_of_succ_le b)) (Nat.lt_irrefl _)
    · exact absurd (Nat.lt_of_lt_of_le (clt y c b) (Nat.le_of_succ_le a)) (Nat.lt_irrefl _)
    · refine cf_inj scope.names (s.heap.objs.size + 1) (s.heap.objs.size + 1) (closOf scope X.env) (Nat.le_refl _) (fun p hp => Nat.lt_succ_of_lt (clt p.1 p.2 (mem_clos2 hp).1)) (fun x y c h1 h2 l => ?_) x y c (PySem.mem_of_lookup e1) (PySem.mem_of_lookup e2) a
      exact absurd (Nat.lt_of_lt_of_le (clt x c (mem_clos2 h1).1) (Nat.le_of_succ_le l)) (Nat.lt_irrefl _)
  · intro x hx
    rcases kinds x hx with m | m
    · exact Option.isSome_iff_exists.mp (PySem.W.cellsFrom_some scope.names (s.heap.objs.size + 1) (closOf scope X.env) (.inl m))
    · obtain ⟨c, hc⟩ := I.ok.has x (free2 x m)
      exact Option.isSome_iff_exists.mp (PySem.W.cellsFrom_some scope.names (s.heap.objs.size + 1) (closOf scope X.env) (.inr (by rw [clos_has m hc]; rfl)))
  · intro x c z e
    have z : scope.names.lookup x = some .cell := by simpa [compCxC] using z
    rcases two x c e with ⟨_, m⟩ | ⟨_, l, _⟩
    · have := freeL x m
      rw [z] at this
      cases this
    · exact Nat.le_of_succ_le l
  · intro b hb
    obtain ⟨f0, f1, f2, f3, f4, f5⟩ := hf b hb
    refine ⟨Nat.ne_of_lt (hfl b hb), fun x c e => ?_⟩
    rcases two x c e with ⟨a, _⟩ | ⟨_, l, _⟩
    · exact f4 x c a
    · exact fun z => absurd (Nat.lt_of_lt_of_le (hfl b hb) (Nat.le_of_succ_le (z ▸ l))) (Nat.lt_irrefl _)
  · intro b o e
    exact I.bs b o e
  · exact Nat.le_trans I.ok.bsz I.sz
  · intro b o e hb
    obtain ⟨f0, f1, f2, f3, f4, f5⟩ := hf b hb
    rcases f3 with z | z
    · exact I.ok.noex b o e z
    · exact absurd (Nat.lt_of_lt_of_le (Heap.lt_size (I.ok.bs b o e).1) z) (Nat.lt_irrefl _)
  · intro b hb hs
    obtain ⟨f0, f1, f2, f3, f4, f5⟩ := hf b hb
    rcases List.mem_cons.mp (I.stkSub b hs) with z | z
    · exact f1 z
    · exact f2 z
  · exact I.stack
  · exact I.stkFree
  · intro i x v e1 e2 _
    have hi : nt ≤ i := by
      refine Nat.le_of_not_lt fun z => ?_
      unfold capSt at e2
      rw [List.getElem?_append_left (by simpa using z), List.getElem?_replicate, if_pos z] at e2
      cases e2
    unfold capSt at e2
    rw [List.getElem?_append_right (by simpa using hi), List.length_replicate, List.getElem?_map] at e2
    cases q : cs[i - nt]? with
    | none => rw [q] at e2; cases e2
    | some c =>
      rw [q] at e2
      simp only [Option.map_some, Option.some.injEq] at e2
      have e3 : σ[c]? = some (some v) := by
        cases z : σ[c]? with
        | none => rw [z] at e2; cases e2
        | some o => rw [z] at e2; exact congrArg some e2
      unfold capB at hcap
      rw [List.all_eq_true] at hcap
      have e4 : (N.drop nt)[i - nt]? = some x := by
        rw [List.getElem?_drop, show nt + (i - nt) = i by omega]
        exact e1
      have m : (c, x) ∈ cs.zip (N.drop nt) := by
        have : (cs.zip (N.drop nt))[i - nt]? = some (c, x) := by rw [List.getElem?_zip_eq_some]; exact ⟨q, e4⟩
        exact List.mem_of_getElem? this
      have hm := hcap _ m
      simp only [Bool.and_eq_true, beq_iff_eq, bne_iff_ne, ne_eq] at hm
      obtain ⟨⟨h1', h2'⟩, h3'⟩ := hm
      have hlk : scope.names.lookup x = some .free := h2'
      have h2' : (x, NameKind.free) ∈ scope.names := PySem.mem_of_lookup hlk
      have nocell : (x, NameKind.cell) ∉ scope.names := fun z => by
        have := cellL x z
        rw [hlk] at this
        cases this
      obtain ⟨mm, hmm, hl⟩ := I.loc
      have vis : Vis X.env.scope x := .inr (free2 x h2')
      obtain ⟨u, r, l⟩ := hl c x v h1' e3 vis
      rcases l with ⟨z, _⟩ | ⟨z, d, hd, hcell⟩
      · exact absurd z h3'
      · refine ⟨u, r, .inr ⟨?_, d, cf_keep _ _ _ (clos_has h2' hd) nocell, ?_⟩⟩
        · have isf : ∃ k, (relabel scope X.env).names.lookup x = some k := by
            have : ∃ k', (x, k') ∈ (relabel scope X.env).names := by
              unfold relabel
              by_cases cc : (X.env.scope.kind == .function && X.env.kindOf x == some .cell) = true
              · refine ⟨.cell, List.mem_map.mpr ⟨(x, .free), h2', ?_⟩⟩
                simp only [Bool.and_eq_true] at cc
                simp [cc.1, cc.2]
              · refine ⟨.free, List.mem_map.mpr ⟨(x, .free), h2', ?_⟩⟩
                simp only [Bool.and_eq_true] at cc
                have cc' : ¬ ((NameKind.free == NameKind.free && X.env.scope.kind == .function && X.env.kindOf x == some .cell) = true) := by
                  simp only [beq_self_eq_true, Bool.true_and, Bool.and_eq_true]
                  exact cc
                show (if (NameKind.free == NameKind.free && X.env.scope.kind == .function && X.env.kindOf x == some .cell) = true then (x, NameKind.cell) else (x, NameKind.free)) = (x, NameKind.free)
                rw [if_neg cc']
            obtain ⟨k', hk'⟩ := this
            exact lookup_mem hk'
          obtain ⟨k, ek⟩ := isf
          obtain ⟨k0, e0, rr⟩ := relabel_lookup ek
          rcases rr with rr | ⟨_, rr⟩
          · subst rr
            rw [hlk] at e0
            cases e0
            exact .inr ek
          · subst rr
            exact .inl ek
        · obtain ⟨o, ho, hd'⟩ := hcell
          exact ⟨o, hk _ _ ho, hd'⟩
  · intro x c e
    rcases two x c e with ⟨a, _⟩ | ⟨_, _, a⟩
    · obtain ⟨v, o, ho, hd⟩ := I.cell x c a
      exact ⟨v, o, hk _ _ ho, hd⟩
    · exact ⟨none, a⟩
  · exact I.hok.fresh (Nat.le_refl _)
  · intro x c e
    rcases two x c e with ⟨a, _⟩ | ⟨_, l, _⟩
    · exact I.freeC x c a
    · exact I.hok.fresh (Nat.le_of_succ_le l)
  · intro p hp
    cases hp
  · show (capSt nt cs σ).length = N.length
    unfold capSt
    rw [List.length_append, List.length_replicate, List.length_map, hlen]
theorem compC_core {use : Option (Value → Sem Unit)} {QQ : Value → Shared → Prop} {ipos : Pos} {tg iter elt : Expr} {ifs : List Expr} {scope : Scope} {pos : Pos} {wi : TI} {N : List Str} {nt : Nat} {cs : List Nat} {g : TG} {tt : TT} {te : TE} (hc : X.calm = true) (hi : PI X tg iter wi)
    (hb : N.Nodup → ∀ (C : Addr) (s : Shared) (H : Hp) (fp : List Addr), CompBody (compCxC X N scope C s H fp) tg ifs elt g tt te)
    (hnd : N.Nodup) (hsc : scC scope X.env.scope = true) (hcap : capB cs (N.drop nt) X.N scope X.env.scope = true) (hlen : N.length = nt + cs.length)
    (hs : ∀ x, foldedSetIterable iter X.env x = pure x) {pins : List (Addr × Obj)} {s : Shared} {σ : St} {H : Hp} {Q : V → Hp → Prop} (I : Inv X pins σ H s) (h : tComp wi nt cs g tt te σ H Q)
    (hfin : ∀ {acc : Addr} {fp : List Addr} {HX : Hp} {sx : Shared} {σ' : St} {H' : Hp} {s' : Shared}, Inv X pins σ HX sx → (∀ b ∈ fp, FpOk X pins HX b) → Inv (compCxC X N scope sx.heap.objs.size sx HX fp) [] σ' H' s' → Q (.ref acc) H' → compPost (model X.prog X.w) X.A X.xe use QQ (.ref acc) sx.heap.objs.size (.ok .next) s') :
    wpAny (model X.prog X.w) X.A (comprehension (.ListComp elt [⟨tg, iter, ifs, 0⟩] scope pos) scope X.env ipos (newList []) false (eval iter X.env) use) QQ X.xe s := by
  have hsc' := hsc
  unfold scC at hsc'
  rw [Bool.and_eq_true] at hsc'
  obtain ⟨hkd, hall⟩ := hsc'
  have hkd : scope.kind = .function := by simpa using hkd
  rw [List.all_eq_true] at hall
  have hnames : ∀ x ∈ scope.names, x.2 = .local → scope.names.lookup x.1 = some .local := fun x hx e => by
    have := hall x hx
    rw [e] at this
    simp only [bne_self_eq_false, Bool.false_or, Bool.and_eq_true, beq_iff_eq] at this
    exact this.1.2
  have hclos : closureFor scope X.env = pure (closOf scope X.env) := closureFor_ok fun x hx e => by
    have := hall x hx
    rw [e] at this
    simp only [bne_self_eq_false, Bool.false_or, Bool.and_eq_true, Bool.or_eq_true, beq_iff_eq] at this
    exact I.ok.has x.1 this.2.2
  refine wpAny_comprehension_free (use := use) rfl hs hclos hkd hnames (thn (hi pins s σ H _ I h) fun v s1 h1 => thn h1 fun itv s2 h2 => ?_)
  obtain ⟨it, fp, tn, J, H2, e, I2, T, st2, f2, hR⟩ := h2
  subst e
  refine wpAny_newObj_type (nfe_cells ?_)
  have fr := I2.fresh
  have I3 : Inv X pins σ (upd H2 s2.heap.objs.size (.lst [])) { s2 with heap := s2.heap.push { cls := .type "list", data := .seq ([] : List Value).toArray }, toks := s2.toks } := I2.lnew .nil (le_size (by decide))
  obtain ⟨W, ⟨m0, w0⟩, turn⟩ := hR _ fr
  generalize hacc : s2.heap.objs.size = acc at *
  generalize hsx : ({ s2 with heap := s2.heap.push { cls := .type "list", data := .seq ([] : List Value).toArray }, toks := s2.toks } : Shared) = sx at *
  have hC : sx.heap.objs.size = acc + 1 := by rw [← hsx, ← hacc]; exact Heap.size_push _ _
  have fpl : ∀ b ∈ fp, b < acc := fun b hb => by
    obtain ⟨o, ho, _⟩ := T.obj _ _ st2 b hb
    rw [← hacc]
    exact Heap.lt_size ho
  have f3 : ∀ b ∈ fp, FpOk X pins (upd H2 acc (.lst [])) b := fun b hb => by
    obtain ⟨f0, f1⟩ := f2 b hb
    exact ⟨by rw [upd_ne (Nat.ne_of_lt (fpl b hb))]; exact f0, f1⟩
  have keep3 : ∀ b o, sx.heap.get? b = some o → (nfeH sx.heap scope.names).get? b = some o := fun b o e => pushCells_keeps _ _ b o (Heap.get?_push_of_some _ e)
  have hn3 : (nfeH sx.heap scope.names).Ns sx.heap.objs.size fun _ => none := (Heap.Ns.new sx.heap (.type "dict")).keeps (pushCells_keeps _ _)
  have IC : Inv (compCxC X N scope sx.heap.objs.size sx (upd H2 acc (.lst [])) fp) [] (capSt nt cs σ) (upd H2 acc (.lst [])) { sx with heap := nfeH sx.heap scope.names, toks := sx.toks } :=
    compCxC_inv (tk := sx.toks) I3 hsc hcap hlen f3 (fun b hb => by rw [hC]; exact Nat.lt_succ_of_lt (fpl b hb))
  have hn3' : H2 acc = none := fr
  generalize hXC : compCxC X N scope sx.heap.objs.size sx (upd H2 acc (.lst [])) fp = XC at IC
  have ctxP : XC.prog = X.prog := by rw [← hXC]; rfl
  have ctxW : XC.w = X.w := by rw [← hXC]; rfl
  have ctxK : XC.K = X.K := by rw [← hXC]; rfl
  have ctxA : XC.A = X.A := by rw [← hXC]; rfl
  have ctxC : XC.calm = true := by rw [← hXC]; exact hc
  have ctxX : XC.xe = fun _ _ => False := by rw [← hXC]; rfl
  have ctxE : XC.env = compEnvK scope (closOf scope X.env) sx.heap.objs.size X.env := by rw [← hXC]; rfl
  have body : CompBody XC tg ifs elt g tt te := by rw [← hXC]; exact hb hnd _ _ _ _
  have st3 : tn 0 (nfeH sx.heap scope.names) := T.keep _ _ _ st2 fun b hb o e => keep3 b o (by rw [← hsx]; exact Heap.get?_push_of_some _ e)
  have stat : ∀ {H' : Hp}, (∀ b ∈ fp, H' b = none) → ∀ b ∈ fp, FpOk XC [] H' b := fun hn b hb => by
    obtain ⟨f0, f1, f2', f3', f4, f5⟩ := f3 b hb
    refine ⟨hn b hb, ?_, ?_, .inl (by rw [← hXC]; exact hb), fun x c e => ?_, fun p hp => ?_⟩
    · rw [ctxE]
      exact Nat.ne_of_lt (by rw [hC]; exact Nat.lt_succ_of_lt (fpl b hb))
    · rw [← hXC]
      intro z
      rcases List.mem_cons.mp (I3.stkSub b z) with z | z
      · exact f1 z
      · exact f2' z
    · rw [ctxE] at e
      rcases cf_mem _ _ _ _ (PySem.mem_of_lookup e) with z | ⟨_, z⟩
      · exact f4 x c (mem_clos2 z).1
      · have h9 := fpl b hb
        have z : sx.heap.objs.size + 1 ≤ c := z
        rw [hC] at z
        exact Nat.ne_of_gt (Nat.lt_of_lt_of_le h9 (Nat.le_of_succ_le (Nat.le_of_succ_le z)))
    · rw [← hXC] at hp
      cases hp
  have fin : ∀ {σ' : St} {H' : Hp} {s' : Shared}, Inv XC [] σ' H' s' → Q (.ref acc) H' → compPost (model X.prog X.w) X.A X.xe use QQ (.ref acc) sx.heap.objs.size (.ok .next) s' := fun {σ' H' s'} J' q => hfin I3 f3 (by rw [hXC]; exact J') q
  have loop : codeAny (model X.prog X.w) X.A (.compLoop (.ListComp elt [⟨tg, iter, ifs, 0⟩] scope pos) 0 (.ref it) (.ref acc) XC.env) (compPost (model X.prog X.w) X.A X.xe use QQ (.ref acc) sx.heap.objs.size)
      { sx with heap := nfeH sx.heap scope.names, toks := sx.toks } := by
    rw [← ctxP, ← ctxW, ← ctxA]
    refine codeAny_compLoop_gen (fun n s' => ∃ i ys σ' H', Inv XC [] σ' H' s' ∧ tn i s'.heap ∧ (∀ b ∈ fp, H' b = none) ∧ W i n ys σ' H') ?_ m0 ⟨0, [], _, _, IC, st3, fun b hb => (f3 b hb).1, w0⟩
    rintro n s3 ⟨i, ys, σ3, H3, I3', st3', fr3, w3⟩
    have T' := T
    rw [← ctxP, ← ctxW, ← ctxK] at T'
    obtain ⟨hacc3, alt⟩ := turn i n ys σ3 H3 w3
    rcases alt with ⟨stop, qn⟩ | ⟨go, hsz, NN, hNN, step⟩
    · refine thn (T'.done XC rfl rfl rfl ctxC i [] s3 σ3 H3 _ I3' (stat fr3) st3' stop) fun r s4 ⟨hr, I4⟩ => ?_
      subst hr
      rw [ctxP, ctxW, ctxA]
      exact fin I4 qn
    · refine thn (T'.item XC rfl rfl rfl ctxC i [] s3 σ3 H3 _ I3' (stat fr3) st3' go) fun r s4 ⟨u, hr, h4⟩ => ?_
      subst hr
      refine thn h4 fun _ s5 ⟨x, H5, I5, r5, y5, st5, fr5⟩ => ?_
      have I5' := I5.pinned (stat fr5) (T'.obj _ _ st5)
      have a1 := body.tg _ s5 σ3 H5 x u _ I5' r5 (step x H5 y5)
      rw [ctxX] at a1
      refine thn a1 fun _ s6 ⟨σ6, H6, I6, q6⟩ => ?_
      have a2 := body.tt _ s6 σ6 H6 _ I6 q6
      rw [ctxX] at a2
      refine thn a2 fun b s7 ⟨H7, I7, q7⟩ => ?_
      have again : ∀ {s8 : Shared} {σ7 : St} {H7 : Hp} {zs : List V}, Inv XC ([] ++ pinsAt fp s5.heap) σ7 H7 s8 → NN zs σ7 H7 → ∃ m, m < n ∧ ∃ i ys σ' H', Inv XC [] σ' H' s8 ∧ tn i s8.heap ∧ (∀ b ∈ fp, H' b = none) ∧ W i m ys σ' H' := fun {s8 σ7 H7 zs} I7 n7 => by
        obtain ⟨m', hm, w7⟩ := hNN zs σ7 H7 n7
        refine ⟨m', hm, i + 1, zs, σ7, H7, I7.unpinned, T'.keep _ _ _ st5 fun b hb o e => (I7.pin (b, o) (List.mem_append_right _ (List.mem_append_right _ (mem_pinsAt hb e)))).1, fun b hb => ?_, w7⟩
        obtain ⟨o, e, d⟩ := T'.obj _ _ st5 b hb
        exact (I7.pin (b, o) (List.mem_append_right _ (List.mem_append_right _ (mem_pinsAt hb e)))).2.1
      cases b with
      | false =>
        rw [if_neg Bool.false_ne_true] at q7 ⊢
        exact again I7 q7
      | true =>
        rw [if_pos rfl] at q7 ⊢
        have a3 := body.te _ s7 σ6 H7 _ I7 q7
        rw [ctxX] at a3
        refine thn a3 fun xv s8 ⟨y, H8, I8, r8, q8⟩ => ?_
        obtain ⟨hl8, n8⟩ := q8
        have a4 := mt_append (X := XC) _ s8 σ6 H8 (.ref acc) [y] (.ref acc) [xv] (fun _ H9 => NN (ys ++ [y]) σ6 H9) I8 rfl (.cons r8 .nil) ⟨acc, ys, y, rfl, rfl, hl8, hsz, n8⟩
        rw [ctxX] at a4
        refine thn a4 fun _ s9 ⟨_, H9, I9, _, q9⟩ => ?_
        exact again I9 q9
  rw [ctxE] at loop
  exact codeAny_compStart_list loop (T.self X.A 0 _ _ _ st3 loop)
theorem pe_compC {tg iter elt : Expr} {ifs : List Expr} {scope : Scope} {pos : Pos} {wi : TI} {N : List Str} {nt : Nat} {cs : List Nat} {g : TG} {tt : TT} {te : TE} (hc : X.calm = true) (hi : PI X tg iter wi)
    (hb : N.Nodup → ∀ (C : Addr) (s : Shared) (H : Hp) (fp : List Addr), CompBody (compCxC X N scope C s H fp) tg ifs elt g tt te)
    (hnd : N.Nodup) (hsc : scC scope X.env.scope = true) (hcap : capB cs (N.drop nt) X.N scope X.env.scope = true) (hlen : N.length = nt + cs.length)
    (hs : ∀ x, foldedSetIterable iter X.env x = pure x) : PE X (.ListComp elt [⟨tg, iter, ifs, 0⟩] scope pos) (tComp wi nt cs g tt te) := by
  intro pins s σ H Q I h
  rw [eval_ListComp]
  refine compC_core hc hi hb hnd hsc hcap hlen hs I h fun {acc fp HX sx σ' H' s'} I3 f3 J' q => ?_
  obtain ⟨m, hm, _⟩ := J'.loc
  refine ⟨m, hm, fun h' hs' => ⟨.ref acc, H', ?_, rfl, q⟩⟩
  refine I3.call' (s' := { s' with heap := h' }) J'.os (un_same J'.base hs' (Nat.le_refl _)) (hok_same J'.hok hs' J'.free) J'.bare fun b hb => ?_
  obtain ⟨f0, f1, f2', f3', f4, f5⟩ := f3 b hb
  exact ⟨f3', f1, f4, f5⟩
end
end L2
set_option Elab.async false
set_option linter.all false
set_option maxRecDepth 100000
set_option maxHeartbeats 1000000
namespace L2
open PySem PySem.Spec
theorem Chg.updN {p q : Addr} {H H' : Hp} {o : HO} (c : Chg p H H') (h : H q = none) : Chg p H (L2.upd H' q o) := fun b u n e => by rw [upd_ne (ne_of_none e h)]; exact c b u n e
theorem Chg.new {p q : Addr} {H H' : Hp} (c : Chg p H H') (n : q ≠ p) (h : H' q = none) : H q = none := by
  cases e : H q with
  | none => rfl
  | some o => rw [c q o n e] at h; cases h
section
variable {K : PySem.W.Frag} {σ : St} {H : Hp} {Q : VK} {cs : List Nat} {te : TE}
theorem comp_zip {r1 r2 : Addr} {us vs : List V} (h1 : SqL K H r1 us) (h2 : SqL K H r2 vs) (hl : vs.length = us.length) (hz : us.length ≤ 1000) (zs : List V) (hzl : zs.length = us.length)
    (hb : ∀ (i : Nat) (x y z : V) H' (R : VK), us[i]? = some x → vs[i]? = some y → zs[i]? = some z → Same H H' → R z H' → te ([some x, some y] ++ capV cs σ) H' R)
    (hd : ∀ acc H', H acc = none → Same H H' → H' acc = some (.lst zs) → Q (.ref acc) H') :
    CompIt (Itz K r1 r2) 2 cs (gTupM 2 (gCons (gName 0) (gCons (gName 1) gNil))) tYes te σ H Q := by
  refine comp_any us.length (fun acc i ws H' => Same H H' ∧ H' acc = some (.lst ws) ∧ ws = zs.take i) (le_size hz) ?_ ?_ ?_ ?_ ?_ ?_
  · rintro acc i ws H' hi ⟨s, _, _⟩
    exact ⟨_, _, s.seq h1, s.seq h2, hi, by omega⟩
  · rintro acc ws H' ⟨s, _, _⟩
    exact ⟨_, _, s.seq h1, s.seq h2, .inl (Nat.le_refl _)⟩
  · intro acc ha
    exact ⟨same_new ha _, upd_same, rfl⟩
  · rintro acc i ws H' ⟨s, ha, rfl⟩
    exact ⟨ha, by rw [List.length_take]; omega⟩
  · rintro acc i ws H' ts x H2 N hn hi ⟨s, ha, rfl⟩ ⟨T, u, v, rfl, hT, rfl, e1, e2⟩ hts hN
    have hu := e1 _ (s.seq h1)
    have hv := e2 _ (s.seq h2)
    obtain ⟨z, hzi⟩ : ∃ z, zs[i]? = some z := ⟨_, List.getElem?_eq_getElem (by omega)⟩
    obtain ⟨t0, t1, rfl⟩ : ∃ t0 t1, ts = [t0, t1] := by
      match ts, hts with
      | [a, b], _ => exact ⟨a, b, rfl⟩
    rw [w_gTupM]
    refine ⟨[u, v], upd_same, rfl, ?_⟩
    rw [w_gCons, w_gName, w_gCons, w_gName, w_gNil, w_yes, if_pos rfl]
    have sT := same_new hT (.tup [u, v])
    refine hb i u v z _ _ hu hv hzi (s.trans sT) ?_
    have tk : zs.take (i + 1) = zs.take i ++ [z] := by rw [List.take_add_one, hzi]; rfl
    refine ⟨sT _ _ ha, hN _ [some u, some v] _ rfl ⟨same_upd hn (s.trans sT), upd_same, tk.symm⟩⟩
  · rintro acc ws H' hn ⟨s, ha, rfl⟩
    refine hd acc H' hn s ?_
    rw [ha, List.take_of_length_le (by omega)]
theorem comp_rows {n : Nat} (hz : n ≤ 1000) (row : Nat → List Int) (ex : List Addr) (hex : ∀ e ∈ ex, H e ≠ none)
    (hb : ∀ (i : Nat) H' (R : VK), i < n → Same H H' → (∀ r H5, H' r = none → Same H' H5 → H5 r = some (.lst ((row i).map V.int)) → R (.ref r) H5) → te (some (.int (0 + (i : Int))) :: capV cs σ) H' R)
    (hd : ∀ acc ys H', H acc = none → Same H H' → H' acc = some (.lst ys) → HRs H' (acc :: ex) ys ((List.range n).map row) → Q (.ref acc) H') :
    CompIt (Itr 0 n) 1 cs (gName 0) tYes te σ H Q := by
  refine comp_any n (fun acc i ws H' => Same H H' ∧ H acc = none ∧ H' acc = some (.lst ws) ∧ HRs H' (acc :: ex) ws ((List.range i).map row)) (le_size hz) ?_ ?_ ?_ ?_ ?_ ?_
  · rintro acc i ws H' hi _
    exact hi
  · rintro acc ws H' _
    exact Nat.le_refl _
  · intro acc ha
    exact ⟨same_new ha _, ha, upd_same, hrs_nil⟩
  · rintro acc i ws H' ⟨s, _, ha, hr⟩
    exact ⟨ha, by rw [hr.len, List.length_map, List.length_range]; exact Nat.le_refl _⟩
  · rintro acc i ws H' ts x H2 N hn hi ⟨s, hn', ha, hr⟩ ⟨rfl, rfl⟩ hts hN
    obtain ⟨t0, rfl⟩ : ∃ t0, ts = [t0] := by
      match ts, hts with
      | [a], _ => exact ⟨a, rfl⟩
    rw [w_gName, w_yes, if_pos rfl]
    refine hb i _ _ hi s fun r H5 hr0 s5 h5 => ?_
    refine ⟨s5 _ _ ha, hN _ [_] _ rfl ⟨same_upd hn (s.trans s5), hn, upd_same, ?_⟩⟩
    have hra : r ≠ acc := (ne_of_none ha hr0).symm
    have ne : ∀ e ∈ acc :: ex, r ≠ e := fun e he => by
      rcases List.mem_cons.mp he with z | z
      · subst z; exact hra
      · cases hh : H e with
        | none => exact absurd hh (hex e z)
        | some o => exact (ne_of_none (s _ _ hh) hr0).symm
    have h2 : HRs (upd H5 acc (.lst (ws ++ [.ref r]))) (acc :: ex) (ws ++ [.ref r]) ((List.range i).map row ++ [row i]) := by
      refine HRs.snoc ((hr.same s5).chg List.mem_cons_self (Chg.upd _)) ?_ ne
      rw [upd_ne hra]; exact h5
    rw [List.range_succ, List.map_append]
    exact h2
  · rintro acc ws H' hn ⟨s, _, ha, hr⟩
    exact hd acc ws H' hn s ha hr
end
def unitRow (n i : Nat) : List Int := (List.range n).map fun k => if k = i then 1 else 0
def unV (i : Nat) : V → Option V := fun x => match x with
  | .int k => some (.int (if k = (i : Int) then 1 else 0))
  | _ => none
theorem unV_map (n i : Nat) : (rngV 0 n).filterMap (unV i) = (unitRow n i).map V.int := by
  unfold rngV unitRow
  rw [List.map_map, List.filterMap_map]
  rw [show (unV i ∘ fun (k : Nat) => V.int (0 + (k : Int))) = fun k => some ((V.int ∘ fun k => if k = i then 1 else 0) k) from ?_, filterMap_some]
  funext k
  show some (V.int (if 0 + (k : Int) = (i : Int) then 1 else 0)) = some (V.int (if k = i then 1 else 0))
  by_cases h : k = i
  · subst h; rw [if_pos (by omega), if_pos rfl]
  · rw [if_neg (by omega), if_neg h]
theorem unitRow_len (n i : Nat) : (unitRow n i).length = n := by unfold unitRow; rw [List.length_map, List.length_range]
theorem unitRow_bound {n i : Nat} {x : Int} (h : x ∈ unitRow n i) : x = 0 ∨ x = 1 := by
  unfold unitRow at h
  obtain ⟨k, _, rfl⟩ := List.mem_map.mp h
  by_cases e : k = i
  · rw [if_pos e]; exact .inr rfl
  · rw [if_neg e]; exact .inl rfl
end L2
set_option Elab.async false
set_option linter.all false
set_option maxRecDepth 100000
set_option maxHeartbeats 1000000
namespace L2
open PySem PySem.Spec
theorem map_at {ns : List Int} {i : Nat} {x : V} (h : (ns.map V.int)[i]? = some x) : ∃ n, ns[i]? = some n ∧ x = V.int n := by
  rw [List.getElem?_map] at h
  cases e : ns[i]? with
  | none => rw [e] at h; cases h
  | some n => rw [e] at h; exact ⟨n, rfl, (Option.some.inj h).symm⟩
end L2
set_option Elab.async false
set_option linter.all false
set_option maxRecDepth 100000
set_option maxHeartbeats 1000000
namespace L2
open PySem PySem.Spec
structure Wb (H : Hp) (w dl gl : Addr) (ins : Nat) (us : List V) (ds : List Wd) (os : List V) (gs : List Go) : Prop where
  tup : H w = some (.tup [.int ins, .ref dl, .ref gl])
  dll : H dl = some (.lst us)
  hds : HTs wTup H us ds
  gll : H gl = some (.lst os)
  hgs : HTs gTp H os gs
theorem Wb.same {H H' : Hp} {w dl gl : Addr} {ins : Nat} {us : List V} {ds : List Wd} {os : List V} {gs : List Go} (h : Wb H w dl gl ins us ds os gs) (s : Same H H') : Wb H' w dl gl ins us ds os gs :=
  ⟨s _ _ h.tup, s _ _ h.dll, h.hds.same s, s _ _ h.gll, h.hgs.same s⟩
def sgW (w : Str) : Int := if w = "less" then -1 else 1
structure Ar where
  st : Nat
  go : Nat
  sh : Int
  sg : Int
def aTup (a : Ar) : List V := [.int a.st, .int a.go, .int a.sh, .int a.sg]
def arrF (ins : Nat) : Nat → List Wd → List Ar
  | _, [] => []
  | k, d :: r => ⟨d.a, ins + k, d.s, 1⟩ :: ⟨d.b, ins + k, d.t, sgW d.w⟩ :: arrF ins (k + 1) r
theorem arrF_app (ins : Nat) : ∀ (xs ys : List Wd) (k : Nat), arrF ins k (xs ++ ys) = arrF ins k xs ++ arrF ins (k + xs.length) ys
  | [], ys, k => rfl
  | d :: r, ys, k => by
    show ⟨d.a, ins + k, d.s, 1⟩ :: ⟨d.b, ins + k, d.t, sgW d.w⟩ :: arrF ins (k + 1) (r ++ ys) = _
    rw [arrF_app ins r ys (k + 1), show k + 1 + r.length = k + (d :: r).length by simp; omega]
    rfl
theorem arrF_len (ins : Nat) : ∀ (xs : List Wd) (k : Nat), (arrF ins k xs).length = 2 * xs.length
  | [], _ => rfl
  | d :: r, k => by
    show (arrF ins (k + 1) r).length + 1 + 1 = _
    rw [arrF_len ins r (k + 1)]; simp; omega
theorem arr_at {ins : Nat} : ∀ {ds : List Wd} {k t : Nat} {a : Ar}, (arrF ins k ds)[t]? = some a → ∃ d, ds[t / 2]? = some d ∧ a.go = ins + k + t / 2 ∧ ((t % 2 = 0 ∧ a = ⟨d.a, ins + k + t / 2, d.s, 1⟩) ∨ (t % 2 = 1 ∧ a = ⟨d.b, ins + k + t / 2, d.t, sgW d.w⟩))
  | [], k, t, a, h => by
    rw [show arrF ins k [] = [] from rfl] at h
    simp at h
  | d :: r, k, t, a, h => by
    match t, h with
    | 0, h => cases h; exact ⟨d, rfl, rfl, .inl ⟨rfl, rfl⟩⟩
    | 1, h => cases h; exact ⟨d, rfl, rfl, .inr ⟨rfl, rfl⟩⟩
    | t + 2, h =>
      have h' : (arrF ins (k + 1) r)[t]? = some a := h
      obtain ⟨e, e1, e2, e3⟩ := arr_at h'
      have q : (t + 2) / 2 = t / 2 + 1 := by omega
      have q2 : ins + (k + 1) + t / 2 = ins + k + (t / 2 + 1) := by omega
      rw [q]
      rw [q2] at e2 e3
      refine ⟨e, e1, e2, ?_⟩
      rcases e3 with ⟨z, e3⟩ | ⟨z, e3⟩
      · exact .inl ⟨by omega, e3⟩
      · exact .inr ⟨by omega, e3⟩
inductive Rch (ins : Nat) (ds : List Wd) (gs : List Go) : Nat → Prop
  | root {g : Go} : g ∈ gs → g.sg ≠ 0 → Rch ins ds gs g.th
  | fst {k : Nat} {d : Wd} : ds[k]? = some d → Rch ins ds gs (ins + k) → Rch ins ds gs d.a
  | snd {k : Nat} {d : Wd} : ds[k]? = some d → Rch ins ds gs (ins + k) → Rch ins ds gs d.b
def spSnd : Sp := fun vs H Q _ => ∃ (x : Addr) (d : Wd), vs = [.ref x] ∧ H x = some (.tup (wTup d)) ∧ Q (.int (sgW d.w)) H
theorem ixN_nat {n j : Nat} (h : j < n) : ixN n (j : Int) = some j := by unfold ixN; rw [if_pos (by omega), if_pos (by omega)]; rfl
end L2
set_option Elab.async false
set_option linter.all false
set_option maxRecDepth 100000
set_option maxHeartbeats 1000000
namespace L2
open PySem PySem.Spec
section
variable {H : Hp} {Q : VK}
theorem w_pop {l : Addr} : rPop (.ref l) [] H Q = ∃ xs y, H l = some (.lst xs) ∧ xs[xs.length - 1]? = some y ∧ Q y (upd H l (.lst xs.dropLast)) :=
  propext ⟨fun ⟨l', xs, y, e, _, h, g, q⟩ => by cases e; exact ⟨xs, y, h, g, q⟩, fun ⟨xs, y, h, g, q⟩ => ⟨l, xs, y, rfl, rfl, h, g, q⟩⟩
theorem w_extend {l b : Addr} : rExtend (.ref l) [.ref b] H Q = ∃ xs zs, H l = some (.lst xs) ∧ H b = some (.lst zs) ∧ xs.length + zs.length ≤ sizeLine ∧ Q .non (upd H l (.lst (xs ++ zs))) :=
  propext ⟨fun ⟨l', b', xs, zs, e, e2, h⟩ => by cases e; cases e2; exact ⟨xs, zs, h⟩, fun ⟨xs, zs, h⟩ => ⟨l, b, xs, zs, rfl, rfl, h⟩⟩
theorem w_reverse {l : Addr} : rReverse (.ref l) [] H Q = ∃ xs, H l = some (.lst xs) ∧ Q .non (upd H l (.lst xs.reverse)) :=
  propext ⟨fun ⟨l', xs, e, _, h⟩ => by cases e; exact ⟨xs, h⟩, fun ⟨xs, h⟩ => ⟨l, xs, rfl, rfl, h⟩⟩
theorem w_clear {l : Addr} : rClear (.ref l) [] H Q = ∃ xs, H l = some (.lst xs) ∧ Q .non (upd H l (.lst [])) :=
  propext ⟨fun ⟨l', xs, e, _, h⟩ => by cases e; exact ⟨xs, h⟩, fun ⟨xs, h⟩ => ⟨l, xs, rfl, rfl, h⟩⟩
theorem w_cat {l b : Addr} : rCat (.ref l) (.ref b) H Q = ∃ xs zs, H l = some (.lst xs) ∧ H b = some (.lst zs) ∧ xs.length + zs.length ≤ sizeLine ∧ ∀ p, H p = none → Q (.ref p) (upd H p (.lst (xs ++ zs))) :=
  propext ⟨fun ⟨l', b', xs, zs, e, e2, h⟩ => by cases e; cases e2; exact ⟨xs, zs, h⟩, fun ⟨xs, zs, h⟩ => ⟨l, b, xs, zs, rfl, rfl, h⟩⟩
end
section
variable {X : Cx}
theorem ix_tupK (K : PySem.W.Frag) (h : X.K = K := by rfl) : IxR X (rIxT K) := by subst h; exact ix_tup
end
section
variable {K : PySem.W.Frag} {σ : St} {H : Hp} {Q : VK} {cs : List Nat} {tt : TT} {te : TE}
end
def fr (ms : List Nat) : Nat → Nat
  | 0 => 0
  | n + 1 => (if n ∈ ms then 0 else 1) + fr ms n
theorem ukv_len (us : List Int) : (ukv us).length = us.length := by unfold ukv; rw [List.length_map]
theorem hts_isL {α : Type} {f : α → List V} {K : PySem.W.Frag} {H : Hp} (hf : ∀ a, (f a).all flatV = true) : ∀ {xs : List α} {vs : List V}, HTs f H vs xs → IsL K H vs (xs.map fun a => .t ((f a).map Dt.f))
  | [], vs, h => by
    have : vs = [] := List.eq_nil_of_length_eq_zero h.len
    subst this
    rw [List.map_nil, IsL]
  | a :: r, vs, h => by
    obtain ⟨p, h1, h2⟩ := h.at_ 0 a rfl
    cases vs with
    | nil => cases h1
    | cons v vs =>
      cases h1
      rw [List.map_cons, IsL]
      refine ⟨_, _, rfl, is_tup (SqT.of h2) (hf a), hts_isL hf ⟨by have := h.len; simpa using this, fun k x hx => ?_⟩⟩
      exact h.at_ (k + 1) x hx
def webDt (ins : Nat) (ds : List Wd) (gs : List Go) : Dt := .t [.f (.int ins), .l (ds.map fun d => .t ((wTup d).map Dt.f)), .l (gs.map fun g => .t ((gTp g).map Dt.f))]
theorem Wb.is {K : PySem.W.Frag} {H : Hp} {w dl gl : Addr} {ins : Nat} {us : List V} {ds : List Wd} {os : List V} {gs : List Go} (h : Wb H w dl gl ins us ds os gs) : Is K H (.ref w) (webDt ins ds gs) := by
  unfold webDt
  rw [Is]
  refine ⟨w, _, rfl, SqT.of h.tup, ?_⟩
  rw [IsL]
  refine ⟨_, _, rfl, by rw [Is]; exact ⟨rfl, rfl⟩, ?_⟩
  rw [IsL]
  refine ⟨_, _, rfl, ?_, ?_⟩
  · rw [Is]
    exact ⟨dl, us, rfl, SqL.of h.dll, hts_isL (fun _ => rfl) h.hds⟩
  · rw [IsL]
    refine ⟨_, _, rfl, ?_, by rw [IsL]⟩
    rw [Is]
    exact ⟨gl, os, rfl, SqL.of h.gll, hts_isL (fun _ => rfl) h.hgs⟩
theorem depL_tups {α : Type} {f : α → List V} : ∀ (xs : List α), depL (xs.map fun a => .t ((f a).map Dt.f)) ≤ 1
  | [] => by rw [List.map_nil, depL]; decide
  | a :: r => by
    rw [List.map_cons, depL, dep_t]
    have := depL_tups (f := f) r
    omega
theorem dep_web (ins : Nat) (ds : List Wd) (gs : List Go) : dep (webDt ins ds gs) ≤ 50 := by
  unfold webDt
  have h1 := depL_tups (f := wTup) ds
  have h2 := depL_tups (f := gTp) gs
  rw [dep, depL, depL, depL, depL, dep, dep, dep]
  omega
theorem ne_web {K : PySem.W.Frag} {H : Hp} {w dl gl w' dl' gl' : Addr} {ins : Nat} {us us' : List V} {ds : List Wd} {os os' : List V} {gs : List Go} {Q : VK} (h : Wb H w dl gl ins us ds os gs) (h' : Wb H w' dl' gl' ins us' ds os' gs) (q : Q (.bl false) H) : rNeD K (.ref w) (.ref w') H Q :=
  ⟨w, _, _, rfl, h.is, h'.is, dep_web _ _ _, by rw [deq_refl _ (h.is (K := K))]; exact q⟩
end L2
set_option Elab.async false
set_option linter.all false
set_option maxRecDepth 100000
set_option maxHeartbeats 1000000
namespace L2
open PySem PySem.Spec PyProof.Rows
section
variable {prog : Program} {w : World} {A : Around} {E : Value → Shared → Prop} {s : Shared}
end
section
variable {prog : Program} {w : World} {A : Around} {s : Shared} {R : Result → Shared → Prop} {xs ys : Array Value} {z TI TO i1 i2 l1 l2 S lo : Addr}
end
section
variable {prog : Program} {w : World} {A : Around} {E : Value → Shared → Prop} {s : Shared} {xs ys : Array Value} {z TI TO i1 i2 l1 l2 : Addr}
end
def tLZ (K : PySem.W.Frag) (ta : TA) : TE := fun σ H Q => ta σ H fun vs H1 => ∃ a b us ws, vs = [.ref a, .ref b] ∧ SqL K H1 a us ∧ SqL K H1 b ws ∧ ws.length = us.length ∧ us.length ≤ 1000 ∧
  ∀ l zs H', H1 l = none → Same H1 H' → H' l = some (.lst zs) → zs.length = us.length → (∀ (k : Nat) (x y : V), us[k]? = some x → ws[k]? = some y → ∃ t : Addr, zs[k]? = some (.ref t) ∧ H' t = some (.tup [x, y])) → Q (.ref l) H'
theorem w_LZ {K : PySem.W.Frag} {ta : TA} {σ : St} {H : Hp} {Q : VK} : tLZ K ta σ H Q = (ta σ H fun vs H1 => ∃ a b us ws, vs = [.ref a, .ref b] ∧ SqL K H1 a us ∧ SqL K H1 b ws ∧ ws.length = us.length ∧ us.length ≤ 1000 ∧
  ∀ l zs H', H1 l = none → Same H1 H' → H' l = some (.lst zs) → zs.length = us.length → (∀ (k : Nat) (x y : V), us[k]? = some x → ws[k]? = some y → ∃ t : Addr, zs[k]? = some (.ref t) ∧ H' t = some (.tup [x, y])) → Q (.ref l) H') := rfl
end L2
set_option Elab.async false
set_option linter.all false
set_option maxRecDepth 100000
set_option maxHeartbeats 1000000
namespace L2
open PySem PySem.Spec
def rowD (rs : List (List Int)) (d : Wd) : List Int := List.zipWith (fun x y => mvI d.s x + sgW d.w * mvI d.t y) (rs.getD d.a []) (rs.getD d.b [])
def rowsW (ins : Nat) (ds : List Wd) : List (List Int) := ds.foldl (fun rs d => rs ++ [rowD rs d]) ((List.range ins).map (unitRow ins))
theorem rowsW_snoc (ins : Nat) (ds : List Wd) (d : Wd) : rowsW ins (ds ++ [d]) = rowsW ins ds ++ [rowD (rowsW ins ds) d] := by unfold rowsW; rw [List.foldl_append]; rfl
theorem rowsW_len (ins : Nat) (ds : List Wd) : (rowsW ins ds).length = ins + ds.length := by
  refine snoc_ind (p := fun ds => (rowsW ins ds).length = ins + ds.length) ?_ (fun xs x ih => ?_) ds
  · unfold rowsW; simp
  · rw [rowsW_snoc, List.length_append, ih]; simp; omega
theorem rowsW_pre (ins : Nat) (ds new : List Wd) {k : Nat} {r : List Int} (h : (rowsW ins ds)[k]? = some r) : (rowsW ins (ds ++ new))[k]? = some r := by
  refine snoc_ind (p := fun new => (rowsW ins (ds ++ new))[k]? = some r) (by rw [List.append_nil]; exact h) (fun xs x ih => ?_) new
  rw [← List.append_assoc, rowsW_snoc, List.getElem?_append_left (List.getElem?_eq_some_iff.mp ih).1]
  exact ih
theorem getD_of {α : Type} {xs : List α} {k : Nat} {x d : α} (h : xs[k]? = some x) : xs.getD k d = x := by rw [List.getD_eq_getElem?_getD, h]; rfl
def Dv (s : Int) (r : List Int) : Prop := s < 0 → ∀ x ∈ r, (2 : Int) ^ (-s).toNat ∣ x
theorem rows_stay (ins : Nat) (ds : List Wd) (d : Wd) {j : Nat} (h : j < ins + ds.length) : (rowsW ins (ds ++ [d])).getD j [] = (rowsW ins ds).getD j [] := by
  have hj : j < (rowsW ins ds).length := by rw [rowsW_len]; exact h
  have e := List.getElem?_eq_getElem hj
  rw [getD_of e, getD_of (rowsW_pre ins ds [d] e)]
section
variable {K : PySem.W.Frag} {σ : St} {H : Hp} {Q : VK} {cs : List Nat} {te : TE}
end
theorem mvI_up {s n : Int} (h : 0 ≤ s) : mvI s n = n * 2 ^ s.toNat := by
  unfold mvI
  rw [if_neg (by omega)]
  by_cases z : 0 > 0 - s
  · rw [if_pos z]; simp
  · rw [if_neg z, show s = 0 by omega]; simp
theorem mvI_down {s n : Int} (h : s < 0) : mvI s n = n / 2 ^ (-s).toNat := by
  unfold mvI
  rw [if_pos (by omega), if_neg (by omega), show (0 - s) = -s by omega]
  simp
end L2
set_option Elab.async false
set_option linter.all false
set_option maxRecDepth 100000
set_option maxHeartbeats 1000000
namespace L2
open PySem PySem.Spec
section
variable {K : PySem.W.Frag} {σ : St} {H : Hp} {Q : VK} {cs : List Nat} {te : TE}
end
def outR (rs : List (List Int)) (g : Go) : List Int := (rs.getD g.th []).map fun x => g.sg * mvI g.sh x
theorem RB.lt {b : Nat} {rs : List (List Int)} {r : List Int} (h : RB b rs) (hr : r ∈ rs) (hb : b ≤ 8000) : ∀ x ∈ r, x.natAbs < 2 ^ 9000 := fun x hx => Nat.lt_of_le_of_lt ((h r hr).2 x hx) (Nat.pow_lt_pow_right (by decide) (by omega))
theorem rowsW_take {ins : Nat} {ds : List Wd} {i : Nat} {d : Wd} (hd : ds[i]? = some d) : rowsW ins (ds.take (i + 1)) = rowsW ins (ds.take i) ++ [rowD (rowsW ins (ds.take i)) d] := by
  rw [List.take_add_one, hd]
  exact rowsW_snoc _ _ _
theorem rowsW_takeD {ins : Nat} {ds : List Wd} {i j : Nat} (hi : i ≤ ds.length) (hj : j < ins + i) : (rowsW ins (ds.take i)).getD j [] = (rowsW ins ds).getD j [] := by
  have hl : j < (rowsW ins (ds.take i)).length := by rw [rowsW_len, List.length_take]; omega
  have e := List.getElem?_eq_getElem hl
  have e2 := rowsW_pre ins (ds.take i) (ds.drop i) e
  rw [List.take_append_drop] at e2
  rw [getD_of e, getD_of e2]
theorem rowsW_sub {ins : Nat} {ds : List Wd} {i : Nat} : ∀ r ∈ rowsW ins (ds.take i), r ∈ rowsW ins ds := fun r hr => by
  obtain ⟨k, hk⟩ := List.getElem?_of_mem hr
  have := rowsW_pre ins (ds.take i) (ds.drop i) hk
  rw [List.take_append_drop] at this
  exact List.mem_of_getElem? this
end L2
set_option Elab.async false
set_option linter.all false
set_option maxRecDepth 100000
set_option maxHeartbeats 1000000
namespace L2
open PySem PySem.Spec
theorem cut_take {xs : List V} {n : Nat} : cutV xs none (some (n : Int)) = xs.take n := by
  unfold cutV
  rw [HT.sIx_none, List.drop_zero, Nat.sub_zero, HT.sIx_nat]
  by_cases hk : n ≤ xs.length
  · rw [Nat.min_eq_left hk]
  · rw [Nat.min_eq_right (by omega), List.take_length, List.take_of_length_le (by omega)]
theorem rowsW_zero (ins : Nat) (ds : List Wd) : (rowsW ins ds).take ins = rowsW ins [] := by
  refine snoc_ind (p := fun ds => (rowsW ins ds).take ins = rowsW ins []) ?_ (fun xs x ih => ?_) ds
  · exact List.take_of_length_le (by rw [rowsW_len]; simp)
  · rw [rowsW_snoc, List.take_append_of_le_length (by rw [rowsW_len]; omega)]
    exact ih
theorem mvI_zero (x : Int) : mvI 0 x = x := by rw [mvI_up (by decide)]; simp
theorem rowsW_unit {ins : Nat} {ds : List Wd} {i : Nat} (hi : i < ins) : (rowsW ins ds).getD i [] = unitRow ins i := by
  have e : ((rowsW ins ds).take ins)[i]? = some (unitRow ins i) := by
    rw [rowsW_zero]
    show ((List.range ins).map (unitRow ins))[i]? = _
    rw [List.getElem?_map, List.getElem?_range hi]
    rfl
  rw [List.getElem?_take_of_lt hi] at e
  exact getD_of e
end L2
set_option Elab.async false
set_option linter.all false
set_option maxRecDepth 100000
set_option maxHeartbeats 1000000
namespace L2
open PySem PySem.Spec
section
variable {α : Type} {f : α → List V} {K : PySem.W.Frag} {H : Hp} {l l' : Addr} {ys ys' : List V} {xs : List α} {Q : VK}
end
def lrDt (rs : List (List Int)) : Dt := .l (rs.map fun r => .l ((r.map V.int).map Dt.f))
theorem hrs_isL {K : PySem.W.Frag} {H : Hp} {ex : List Addr} : ∀ {rs : List (List Int)} {vs : List V}, HRs H ex vs rs → IsL K H vs (rs.map fun r => .l ((r.map V.int).map Dt.f))
  | [], vs, h => by
    have : vs = [] := List.eq_nil_of_length_eq_zero h.len
    subst this
    rw [List.map_nil, IsL]
  | r :: rs, vs, h => by
    obtain ⟨p, h1, h2, h3⟩ := h.at_ 0 r rfl
    cases vs with
    | nil => cases h1
    | cons v vs =>
      cases h1
      rw [List.map_cons, IsL]
      refine ⟨_, _, rfl, is_lst (SqL.of h2) (flat_ints r), hrs_isL (ex := ex) ⟨by have := h.len; simpa using this, fun k x hx => ?_⟩⟩
      exact h.at_ (k + 1) x hx
theorem depL_lr : ∀ (rs : List (List Int)), depL (rs.map fun r => .l ((r.map V.int).map Dt.f)) ≤ 1
  | [] => by rw [List.map_nil, depL]; decide
  | a :: r => by
    rw [List.map_cons, depL, dep_l]
    have := depL_lr r
    omega
theorem lr_is {K : PySem.W.Frag} {H : Hp} {ex : List Addr} {l : Addr} {vs : List V} {rs : List (List Int)} (h : H l = some (.lst vs)) (hr : HRs H ex vs rs) : Is K H (.ref l) (lrDt rs) := by
  unfold lrDt
  rw [Is]
  exact ⟨l, vs, rfl, SqL.of h, hrs_isL hr⟩
def oarr (n : Nat) : Nat → List Go → List Ar
  | _, [] => []
  | j, g :: r => (if g.sg = 0 then [] else [⟨g.th, n + j, g.sh, g.sg⟩]) ++ oarr n (j + 1) r
theorem oarr_app (n : Nat) : ∀ (xs ys : List Go) (j : Nat), oarr n j (xs ++ ys) = oarr n j xs ++ oarr n (j + xs.length) ys
  | [], ys, j => rfl
  | g :: r, ys, j => by
    show (if g.sg = 0 then [] else [_]) ++ oarr n (j + 1) (r ++ ys) = ((if g.sg = 0 then [] else [_]) ++ oarr n (j + 1) r) ++ _
    rw [oarr_app n r ys (j + 1), List.append_assoc, show j + 1 + r.length = j + (g :: r).length by simp; omega]
theorem oarr_len (n : Nat) : ∀ (xs : List Go) (j : Nat), (oarr n j xs).length ≤ xs.length
  | [], _ => Nat.le_refl _
  | g :: r, j => by
    show ((if g.sg = 0 then [] else [_]) ++ oarr n (j + 1) r).length ≤ _
    have := oarr_len n r (j + 1)
    rw [List.length_append]
    split <;> simp <;> omega
theorem oarr_mem {n : Nat} : ∀ {xs : List Go} {j : Nat} {a : Ar}, a ∈ oarr n j xs → ∃ (k : Nat) (g : Go), xs[k]? = some g ∧ g.sg ≠ 0 ∧ a = ⟨g.th, n + (j + k), g.sh, g.sg⟩
  | [], j, a, h => by cases h
  | g :: r, j, a, h => by
    rcases List.mem_append.mp (show a ∈ (if g.sg = 0 then [] else [_]) ++ oarr n (j + 1) r from h) with z | z
    · by_cases e : g.sg = 0
      · rw [if_pos e] at z; cases z
      · rw [if_neg e] at z
        exact ⟨0, g, rfl, e, List.mem_singleton.mp z⟩
    · obtain ⟨k, g', h1, h2, h3⟩ := oarr_mem z
      exact ⟨k + 1, g', h1, h2, by rw [h3, show j + 1 + k = j + (k + 1) by omega]⟩
def allA (ins : Nat) (ds : List Wd) (gs : List Go) : List Ar := arrF ins 0 ds ++ oarr (ins + ds.length) 0 gs
theorem allA_len {ins : Nat} {ds : List Wd} {gs : List Go} (ok : WebOk ins ds gs) : (allA ins ds gs).length ≤ 132 := by
  unfold allA
  rw [List.length_append, arrF_len]
  have := oarr_len (ins + ds.length) gs 0
  have := ok.dl
  have := ok.gl
  omega
theorem HTs.app {α : Type} {f : α → List V} {H : Hp} {vs us : List V} {xs ys : List α} (h : HTs f H vs xs) (h' : HTs f H us ys) : HTs f H (vs ++ us) (xs ++ ys) := by
  refine ⟨by rw [List.length_append, List.length_append, h.len, h'.len], fun k x hx => ?_⟩
  by_cases hk : k < xs.length
  · rw [List.getElem?_append_left hk] at hx
    rw [List.getElem?_append_left (by rw [h.len]; exact hk)]
    exact h.at_ k x hx
  · rw [List.getElem?_append_right (by omega)] at hx
    rw [List.getElem?_append_right (by rw [h.len]; omega), h.len]
    exact h'.at_ _ x hx
end L2
set_option Elab.async false
set_option linter.all false
set_option maxRecDepth 100000
set_option maxHeartbeats 1000000
namespace L2
open PySem PySem.Spec PyProof.Rows
def tLR (ta : TA) : TE := fun σ H Q => ta σ H fun vs H1 => ∃ j : Nat, vs = [.int (j : Int)] ∧ j ≤ 1000 ∧ ∀ l H', H1 l = none → Same H1 H' → H' l = some (.lst (rngV 0 j)) → Q (.ref l) H'
theorem w_LR {ta : TA} {σ : St} {H : Hp} {Q : VK} : tLR ta σ H Q = (ta σ H fun vs H1 => ∃ j : Nat, vs = [.int (j : Int)] ∧ j ≤ 1000 ∧ ∀ l H', H1 l = none → Same H1 H' → H' l = some (.lst (rngV 0 j)) → Q (.ref l) H') := rfl
def iRngD (ta : TA) : TI := fun σ H R => ta σ H fun vs H1 => ∃ i : Int, vs = [.int i, .int (-1), .int (-1)] ∧ (-1 ≤ i ∧ i < 2 ^ 31) ∧ R (Itr3 i (-1) (i + 1).toNat) H1
theorem size_down {i : Int} (h : -1 ≤ i) : Builtin.Range.rangeSize i (-1) (-1) = i + 1 := by
  unfold Builtin.Range.rangeSize
  rw [if_neg (by decide), show (- -1 : Int) = 1 by decide, Int.ediv_one]
  split <;> omega
theorem small_down {i : Int} (h : -1 ≤ i ∧ i < 2 ^ 31) : Builtin.Range.small i (-1) (-1) = true := by
  unfold Builtin.Range.small
  rw [size_down h.1]
  simp only [Builtin.Range.rangeFitsLong, Bool.and_eq_true, Bool.or_eq_true, decide_eq_true_eq, beq_iff_eq]
  exact ⟨⟨⟨⟨⟨by omega, by omega⟩, by omega, by omega⟩, by omega, by omega⟩, by omega, by omega⟩, .inr (by decide)⟩
theorem pi_rangeD {X : Cx} {tg : Expr} {a b c : Expr} {ta : TA} {p pos : Pos} (hg : Gl X "range") (hm : X.mg "range" = none) (ha : PA X [a, b, c] ta) (hs : starEach [a, b, c] X.env = (false, eval a X.env) :: starEach [b, c] X.env := by rfl) (hpl : (backTo pos (starEach [b, c] X.env)).any (·.1) = false := by rfl) :
    PI X tg (.Call (.Name "range" p) [a, b, c] [] pos) (iRngD ta) := by
  intro pins s σ H R I h
  refine Call_ (ld_blt I hg hm boot_range (PyProof.Rows.callWith_type1 (thn (ha pos pins s σ H _ I h) fun us s1 ⟨vs, H1, I1, r1, q1⟩ => ?_) hs hpl))
  obtain ⟨i, e, hi, q⟩ := q1
  subst e
  cases r1 with
  | cons r rr =>
    cases rr with
    | cons r' rr =>
      cases rr with
      | cons r3 rr =>
        cases rr
        obtain ⟨t, rfl⟩ := r
        obtain ⟨t', rfl⟩ := r'
        obtain ⟨t3, rfl⟩ := r3
        refine call_range_3 (by decide) ?_ (Or.inl (PyProof.noPylong_of_log2 (by decide +kernel)))
        refine wpAny_pyIter_range (IsRange.new ..) (small_down hi) ?_
        have I2 : Inv X pins σ H1 { s1 with heap := s1.heap.push { cls := .type "range", data := .fields #[.int i t, .int (-1) t', .int (-1) t3] }, toks := s1.toks } := I1.kept fun b o e => Heap.get?_push_of_some _ e
        refine ⟨(s1.heap.push { cls := .type "range", data := .fields #[.int i t, .int (-1) t', .int (-1) t3] }).objs.size, [(s1.heap.push { cls := .type "range", data := .fields #[.int i t, .int (-1) t', .int (-1) t3] }).objs.size], _, _, H1, rfl, I2.kept (t' := s1.toks) fun b o e => Heap.get?_push_of_some _ e, turn_range3 _ i (-1) (i + 1).toNat, ?_, fun b hb => ?_, q⟩
        · have e1 : i + ((0 : Nat) : Int) * (-1) = i := by omega
          have e2 : (((i + 1).toNat : Nat) : Int) - ((0 : Nat) : Int) = Builtin.Range.rangeSize i (-1) (-1) := by rw [size_down hi.1]; omega
          show IsRangeIter _ _ (i + ((0 : Nat) : Int) * (-1)) ((((i + 1).toNat : Nat) : Int) - ((0 : Nat) : Int)) (-1)
          rw [e1, e2]
          exact Heap.get?_push_size _ rfl
        · have e : b = (s1.heap.push { cls := .type "range", data := .fields #[.int i t, .int (-1) t', .int (-1) t3] }).objs.size := by simpa using hb
          subst e
          exact I2.fpOk (Nat.le_refl _) (I2.hok.fresh (Nat.le_refl _))
theorem w_forD {σ : St} {H : Hp} {D : Ends} {g : TG} {tb : TS} {ta : TA} : tFor (iRngD ta) g tb D σ H = (ta σ H fun vs H1 => ∃ i : Int, vs = [.int i, .int (-1), .int (-1)] ∧ (-1 ≤ i ∧ i < 2 ^ 31) ∧ ForR3 i (-1) (i + 1).toNat g tb D σ H1) := rfl
section
variable {K : PySem.W.Frag} {σ : St} {H : Hp} {Q : VK} {cs : List Nat} {te : TE}
end
end L2
set_option Elab.async false
set_option linter.all false
set_option maxRecDepth 100000
set_option maxHeartbeats 1000000
namespace L2
open PySem PySem.Spec PyProof.Rows
section
variable {prog : Program} {w : World} {A : Around} {E : Value → Shared → Prop} {s : Shared}
end
section
variable {prog : Program} {w : World} {A : Around} {E : Value → Shared → Prop} {s : Shared}
end
def Itzt (K : PySem.W.Frag) (a b : Addr) : It :=
  ⟨fun i H => ∃ xs ys, SqT K H a xs ∧ SqT K H b ys ∧ i < xs.length ∧ i < ys.length,
   fun i H x H' => ∃ T u v, x = .ref T ∧ H T = none ∧ H' = upd H T (.tup [u, v]) ∧ (∀ xs, SqT K H a xs → xs[i]? = some u) ∧ (∀ ys, SqT K H b ys → ys[i]? = some v),
   fun i H => ∃ xs ys, SqT K H a xs ∧ SqT K H b ys ∧ (xs.length ≤ i ∨ ys.length ≤ i)⟩
def iZip2 (K : PySem.W.Frag) (ta : TA) : TI := fun σ H R => ta σ H fun vs H1 => ∃ a b xs ys, vs = [.ref a, .ref b] ∧ ((SqL K H1 a xs ∧ SqL K H1 b ys ∧ R (Itz K a b) H1) ∨ (SqT K H1 a xs ∧ SqT K H1 b ys ∧ R (Itzt K a b) H1))
theorem w_compZ2 {K : PySem.W.Frag} {σ : St} {H : Hp} {Q : VK} {ta : TA} {nt : Nat} {cs : List Nat} {g : TG} {tt : TT} {te : TE} : tComp (iZip2 K ta) nt cs g tt te σ H Q = (ta σ H fun vs H1 => ∃ a b xs ys, vs = [.ref a, .ref b] ∧ ((SqL K H1 a xs ∧ SqL K H1 b ys ∧ CompIt (Itz K a b) nt cs g tt te σ H1 Q) ∨ (SqT K H1 a xs ∧ SqT K H1 b ys ∧ CompIt (Itzt K a b) nt cs g tt te σ H1 Q))) := rfl
end L2
set_option Elab.async false
set_option linter.all false
set_option maxRecDepth 100000
set_option maxHeartbeats 1000000
namespace L2
open PySem PySem.Spec PyProof.Rows
structure Gt (ins : Nat) (ds : List Wd) (gs : List Go) (i : Nat) (ms : List Nat) : Prop where
  sd : ∀ x ∈ ms, Rch ins ds gs x
  rt : ∀ g ∈ gs, g.sg ≠ 0 → g.th ∈ ms
  cl : ∀ k d, ds[k]? = some d → ds.length ≤ k + i → ins + k ∈ ms → d.a ∈ ms ∧ d.b ∈ ms
  ln : ms.length ≤ gs.length + 2 * i
def kp (bs : List Bool) (ins j : Nat) : Prop := j < ins ∨ bs[j]? = some true
instance (bs : List Bool) (ins j : Nat) : Decidable (kp bs ins j) := by unfold kp; infer_instance
section
variable {ins : Nat} {ds : List Wd} {gs : List Go} {bs : List Bool}
end
section
variable {K : PySem.W.Frag} {σ : St} {H : Hp} {Q : VK} {cs : List Nat} {te : TE}
end
end L2
set_option Elab.async false
set_option linter.all false
set_option maxRecDepth 100000
set_option maxHeartbeats 1000000
namespace L2
open PySem PySem.Spec PyProof.Rows
def TrX (h : Heap) (e : Addr) (C : Value) (d : Option Addr) (T : Addr) : Prop :=
  ∃ oe vs oT ts, h.get? e = some oe ∧ oe.cls = C ∧ oe.dict = d ∧ oe.data = .fields vs ∧ vs[1]? = some (.ref T) ∧ T ≠ e ∧ h.get? T = some oT ∧ oT.data = .fields ts ∧ ts[3]? = some .none
section
variable {M : Model} {A : Around} {E : Value → Shared → Prop} {s : Shared} {base : Heap} {env : Env} {outer : List Env} {L e : Addr} {oe : Obj} {vs : Array Value} {Q : Unit → Shared → Prop}
end
section
variable {P : Program} {w : World} {K : PySem.W.Frag} {mg : Str → Option Value} {base : Heap} {N : List Str} {qual : Str} {scope : Scope} {f : Addr} {cd : Value} {A : Around} {outer : List Env} {s : Shared} {H : Hp} {E : XK}
end
section
variable {X : Cx} {k : Nat} {x : Str} {ps : List Str} {sp : Sp} {e : Expr} {es : List Expr} {t : TA} {p pos : Pos} {E : XK}
end
section
variable {P : Program} {w : World} {K : PySem.W.Frag} {mg : Str → Option Value} {base : Heap}
end
end L2
set_option Elab.async false
set_option linter.all false
set_option maxRecDepth 100000
set_option maxHeartbeats 1000000
namespace L2
open PySem PySem.Spec PyProof.Rows
section
variable {M : Model} {A : Around} {E : Value → Shared → Prop}
end
end L2
set_option Elab.async false
set_option linter.all false
set_option maxRecDepth 100000
set_option maxHeartbeats 1000000
namespace L2
open PySem PySem.Spec PyProof.Rows
def XP (X : Cx) (pins : List (Addr × Obj)) (σ : St) (E : XK) (e : Value) (s' : Shared) : Prop := ∃ (x T : Addr) (C : Value) (d : Option Addr) (H' : Hp), e = .ref x ∧ Inv X pins σ H' s' ∧ TrX s'.heap x C d T ∧
  (X.s₀.heap.get? x = none ∧ X.s₀.heap.get? T = none) ∧ (∀ p ∈ X.pn ++ pins, p.1 ≠ x ∧ p.1 ≠ T) ∧ H' x = none ∧ H' T = none ∧ E C d H'
end L2
set_option Elab.async false
set_option linter.all false
set_option maxRecDepth 100000
set_option maxHeartbeats 1000000
namespace L2
open PySem PySem.Spec PyProof.Rows
end L2
set_option Elab.async false
set_option linter.all false
set_option maxRecDepth 100000
set_option maxHeartbeats 1000000
namespace L2
open PySem PySem.Spec PyProof.Rows
section
variable {prog : Program} {w : World} {A : Around} {E : Value → Shared → Prop} {s : Shared} {K : PySem.W.Frag} {x D : Addr} {o : Obj}
end
end L2
set_option Elab.async false
set_option linter.all false
set_option maxRecDepth 100000
set_option maxHeartbeats 1000000
namespace L2
open PySem PySem.Spec PyProof.Rows
end L2
set_option Elab.async false
set_option linter.all false
set_option maxRecDepth 100000
set_option maxHeartbeats 1000000
namespace L2
open PySem PySem.Spec
end L2
set_option Elab.async false
set_option linter.all false
set_option maxRecDepth 100000
set_option maxHeartbeats 1000000
namespace L2
open PySem PySem.Spec
end L2
set_option Elab.async false
set_option linter.all false
set_option maxRecDepth 100000
set_option maxHeartbeats 1000000
namespace L2
open PySem PySem.Spec
def valD (vs : List Int) (d : Wd) : Int := mvI d.s (vs.getD d.a 0) + sgW d.w * mvI d.t (vs.getD d.b 0)
def valsW (xs : List Int) (ds : List Wd) : List Int := ds.foldl (fun vs d => vs ++ [valD vs d]) xs
theorem valsW_snoc (xs : List Int) (ds : List Wd) (d : Wd) : valsW xs (ds ++ [d]) = valsW xs ds ++ [valD (valsW xs ds) d] := by unfold valsW; rw [List.foldl_append]; rfl
theorem valsW_len (xs : List Int) (ds : List Wd) : (valsW xs ds).length = xs.length + ds.length := by
  refine snoc_ind (p := fun ds => (valsW xs ds).length = xs.length + ds.length) rfl (fun ys y ih => ?_) ds
  rw [valsW_snoc, List.length_append, ih]; simp; omega
theorem valsW_pre (xs : List Int) (ds new : List Wd) {k : Nat} {r : Int} (h : (valsW xs ds)[k]? = some r) : (valsW xs (ds ++ new))[k]? = some r := by
  refine snoc_ind (p := fun new => (valsW xs (ds ++ new))[k]? = some r) (by rw [List.append_nil]; exact h) (fun ys y ih => ?_) new
  rw [← List.append_assoc, valsW_snoc, List.getElem?_append_left (List.getElem?_eq_some_iff.mp ih).1]
  exact ih
theorem valsW_take {xs : List Int} {ds : List Wd} {i : Nat} {d : Wd} (hd : ds[i]? = some d) : valsW xs (ds.take (i + 1)) = valsW xs (ds.take i) ++ [valD (valsW xs (ds.take i)) d] := by
  rw [List.take_add_one, hd]
  exact valsW_snoc _ _ _
end L2
set_option Elab.async false
set_option linter.all false
set_option maxRecDepth 100000
set_option maxHeartbeats 1000000
namespace L2
open PySem PySem.Spec
theorem valsW_at {xs : List Int} {ds : List Wd} {j : Nat} (h : j < xs.length + ds.length) : ∃ x, (valsW xs ds)[j]? = some x ∧ (valsW xs ds).getD j 0 = x ∧ x ∈ valsW xs ds := by
  have e := List.getElem?_eq_getElem (l := valsW xs ds) (i := j) (by rw [valsW_len]; exact h)
  exact ⟨_, e, getD_of e, List.mem_of_getElem? e⟩
theorem valsW_stay {xs : List Int} {ds : List Wd} {d : Wd} {j : Nat} (h : j < xs.length + ds.length) : (valsW xs (ds ++ [d])).getD j 0 = (valsW xs ds).getD j 0 := by
  obtain ⟨x, e, e2, _⟩ := valsW_at h
  rw [e2, getD_of (valsW_pre xs ds [d] e)]
end L2
set_option Elab.async false
set_option linter.all false
set_option maxRecDepth 100000
set_option maxHeartbeats 1000000
namespace L2
open PySem PySem.Spec
def dotW : List Int → List Int → Int
  | a :: r, x :: xs => a * x + dotW r xs
  | _, _ => 0
theorem dotW_nil (xs : List Int) : dotW [] xs = 0 := by cases xs <;> rfl
theorem dot_unit0 : ∀ (ks : List Nat) (xs : List Int) (i j : Nat), ks = List.range' j xs.length → dotW (ks.map fun k => if k = i then (1 : Int) else 0) xs = if j ≤ i then xs.getD (i - j) 0 else 0
  | ks, [], i, j, h => by
    subst h
    simp [dotW_nil]
  | ks, x :: xs, i, j, h => by
    subst h
    rw [List.length_cons, List.range'_succ, List.map_cons]
    show (if j = i then (1 : Int) else 0) * x + dotW _ xs = _
    rw [dot_unit0 _ xs i (j + 1) rfl]
    by_cases z : j = i
    · subst z
      rw [if_pos rfl, if_neg (by omega), if_pos (Nat.le_refl _), Nat.sub_self, Int.one_mul, Int.add_zero]
      rfl
    · rw [if_neg z, Int.zero_mul, Int.zero_add]
      by_cases y : j ≤ i
      · rw [if_pos y, if_pos (by omega), show i - j = (i - (j + 1)) + 1 by omega]
        rfl
      · rw [if_neg y, if_neg (by omega)]
theorem dot_unit {xs : List Int} {i : Nat} (h : i < xs.length) : dotW (unitRow xs.length i) xs = xs.getD i 0 := by
  unfold unitRow
  rw [dot_unit0 _ xs i 0 (by rw [List.range_eq_range']), if_pos (Nat.zero_le _)]
  rfl
def outV (vs : List Int) (g : Go) : Int := g.sg * mvI g.sh (vs.getD g.th 0)
end L2
set_option Elab.async false
set_option linter.all false
set_option maxRecDepth 100000
set_option maxHeartbeats 1000000
namespace L2
open PySem PySem.Spec PyProof PyProof.Rows
section
variable {P : Program} {w : World} {A : Around} {E : Value → Shared → Prop} {s : Shared}
end
section
variable {X : Cx}
end
end L2
set_option Elab.async false
set_option linter.all false
set_option maxRecDepth 100000
set_option maxHeartbeats 1000000
namespace L2
open PySem PySem.Spec
section
variable {K : PySem.W.Frag} {σ : St} {H : Hp} {D : Ends} {g : TG} {tb : TS} {a b : Addr}
end
section
variable {K : PySem.W.Frag} {σ : St} {H : Hp} {Q : VK} {cs : List Nat} {te : TE}
end
end L2
set_option Elab.async false
set_option linter.all false
set_option maxRecDepth 100000
set_option maxHeartbeats 1000000
namespace L2
open PySem PySem.Spec
section
variable {g : Int → Int → Int → Int → Int} {z : Int}
end
section
variable {g : Int → Int → Int → Int → Int} {z : Int}
end
end L2
set_option Elab.async false
set_option linter.all false
set_option maxRecDepth 100000
set_option maxHeartbeats 1000000
namespace L2
open PySem PySem.Spec
end L2
set_option Elab.async false
set_option linter.all false
set_option maxRecDepth 100000
set_option maxHeartbeats 1000000
namespace L2
open PySem PySem.Spec
section
variable {K : PySem.W.Frag} {σ : St} {H : Hp} {Q : VK} {cs : List Nat} {te : TE}
end
end L2
set_option Elab.async false
set_option linter.all false
set_option maxRecDepth 100000
set_option maxHeartbeats 1000000
namespace L2
open PySem PySem.Spec PyProof.Rows
section
variable {prog : Program} {w : World} {A : Around} {E : Value → Shared → Prop} {s : Shared}
end
section
variable {prog : Program} {w : World} {A : Around} {E : Value → Shared → Prop} {s : Shared}
end
section
variable {K : PySem.W.Frag} {σ : St} {H : Hp} {D : Ends} {g : TG} {tb : TS} {a b c : Addr}
end
end L2
set_option Elab.async false
set_option linter.all false
set_option maxRecDepth 100000
set_option maxHeartbeats 1000000
namespace L2
open PySem PySem.Spec
end L2
set_option Elab.async false
set_option linter.all false
set_option maxRecDepth 100000
set_option maxHeartbeats 1000000
namespace L2
open PySem PySem.Spec PyProof PyProof.Rows
section
variable {prog : Program} {w : World} {A : Around} {E : Value → Shared → Prop} {s : Shared}
end
section
variable {prog : Program} {w : World} {A : Around} {E : Value → Shared → Prop} {s : Shared}
end
section
variable {K : PySem.W.Frag} {σ : St} {H : Hp} {Q : VK} {cs : List Nat} {te : TE}
end
section
variable {X : Cx}
end
end L2
set_option Elab.async false
set_option linter.all false
set_option maxRecDepth 100000
set_option maxHeartbeats 1000000
namespace L2
open PySem PySem.Spec
def Lies (w x : Int) : Prop := -(2 ^ (w - 1).toNat) ≤ x ∧ x < 2 ^ (w - 1).toNat
instance (w x : Int) : Decidable (Lies w x) := by unfold Lies; infer_instance
def nz (ns : List Int) : List Int := ns.filter fun n => decide (n ≠ 0)
end L2
set_option Elab.async false
set_option linter.all false
set_option maxRecDepth 100000
set_option maxHeartbeats 1000000
namespace L2
open PySem PySem.Spec
end L2
set_option Elab.async false
set_option linter.all false
set_option maxRecDepth 100000
set_option maxHeartbeats 1000000
namespace L2
open PySem PySem.Spec
def LL (H : Hp) (l : Addr) (cs : List (List Int)) : Prop := ∃ vs, H l = some (.lst vs) ∧ vs.length = cs.length ∧ ∀ (i : Nat) (c : List Int), cs[i]? = some c → ∃ p, vs[i]? = some (.ref p) ∧ p ≠ l ∧ H p = some (.lst (c.map V.int))
end L2
set_option Elab.async false
set_option linter.all false
set_option maxRecDepth 100000
set_option maxHeartbeats 1000000
namespace L2
open PySem PySem.Spec
theorem seq_in {t u : TS} {D : Ends} {σ : St} {H : Hp} (h : ∀ R : TS, R = u → tSeq t R D σ H) : tSeq t u D σ H := h u rfl
theorem seq_inG {g : TG} {x : V} {t u : TS} {D : Ends} {σ : St} {H : Hp} (h : ∀ R : TS, R = u → g x σ H fun σ2 H2 => tSeq t R D σ2 H2) : g x σ H fun σ2 H2 => tSeq t u D σ2 H2 := h u rfl
theorem seq_out {R u : TS} {D : Ends} {σ : St} {H : Hp} (e : R = u) (h : u D σ H) : R D σ H := by rw [e]; exact h
end L2
set_option Elab.async false
set_option linter.all false
set_option maxRecDepth 100000
set_option maxHeartbeats 1000000
namespace L2
open PySem PySem.Spec
theorem LL.same {H H' : Hp} {l : Addr} {cs : List (List Int)} (h : LL H l cs) (s : Same H H') : LL H' l cs := by
  obtain ⟨vs, h1, h2, h3⟩ := h
  refine ⟨vs, s _ _ h1, h2, fun i c hc => ?_⟩
  obtain ⟨p, a, b, d⟩ := h3 i c hc
  exact ⟨p, a, b, s _ _ d⟩
section
variable {K : PySem.W.Frag} {σ : St} {H : Hp} {Q : VK} {cs : List Nat} {te : TE}
end
end L2
set_option Elab.async false
set_option linter.all false
set_option maxRecDepth 100000
set_option maxHeartbeats 1000000
namespace L2
open PySem PySem.Spec
section
variable {K : PySem.W.Frag} {σ : St} {H : Hp} {Q : VK} {cs : List Nat} {te : TE}
end
end L2
set_option Elab.async false
set_option linter.all false
set_option maxRecDepth 100000
set_option maxHeartbeats 1000000
namespace L2
open PySem PySem.Spec PyProof.Rows
theorem sqT_chg {K : PySem.W.Frag} {H H' : Hp} {l p : Addr} {xs ys : List V} (h : SqT K H p xs) (hl : H l = some (.lst ys)) (C : Chg l H H') : SqT K H' p xs := by
  rcases h with (h | ⟨o, h⟩) | h
  · exact .inl (.inl (C _ _ (ne_of h hl (by intro z; cases z)) h))
  · exact .inl (.inr ⟨o, C _ _ (ne_of h hl (by intro z; cases z)) h⟩)
  · exact .inr h
end L2
set_option Elab.async false
set_option linter.all false
set_option maxRecDepth 100000
set_option maxHeartbeats 1000000
namespace L2
open PySem PySem.Spec PyProof.Rows
section
variable {H H' : Hp} {x dl gl : Addr} {ins : Nat} {us : List V} {ds : List Wd} {os : List V} {gs : List Go}
end
theorem same_chg {H H1 H2 : Hp} {l : Addr} (n : H l = none) (s : Same H H1) (c : Chg l H1 H2) : Same H H2 := fun b o q => c b o (ne_of_none q n) (s b o q)
section
variable {α : Type} {f : α → List V} {H0 H H' : Hp} {p dl : Addr} {us : List V} {ds : List α}
end
section
variable {H : Hp} {w : Str} {a b d1 g1 d2 g2 : Addr} {i1 i2 : Nat} {u1 u2 : List V} {s1 s2 : List Wd} {o1 o2 : List V} {t1 t2 : List Go} {Q : VK} {E : XK}
end
end L2
set_option Elab.async false
set_option linter.all false
set_option maxRecDepth 100000
set_option maxHeartbeats 1000000
namespace L2
open PySem PySem.Spec PyProof.Rows
theorem mvI_0 (s : Int) : mvI s 0 = 0 := by
  unfold mvI
  simp
section
variable {I ins l m : Nat} {f : Nat → Nat} {ds0 ds : List Wd} {gs0 gs : List Go}
end
end L2
set_option Elab.async false
set_option linter.all false
set_option maxRecDepth 100000
set_option maxHeartbeats 1000000
namespace L2
open PySem PySem.Spec PyProof.Rows
structure HKs {α : Type} (K : PySem.W.Frag) (f : α → List V) (H : Hp) (vs : List V) (xs : List α) : Prop where
  len : vs.length = xs.length
  at_ : ∀ (k : Nat) (x : α), xs[k]? = some x → ∃ p : Addr, vs[k]? = some (.ref p) ∧ SqT K H p (f x)
section
variable {α : Type} {K : PySem.W.Frag} {f : α → List V} {H H' : Hp} {vs us : List V} {xs : List α} {l : Addr}
theorem HTs.hk (h : HTs f H vs xs) : HKs K f H vs xs := ⟨h.len, fun k x e => by
  obtain ⟨p, e1, e2⟩ := h.at_ k x e
  exact ⟨p, e1, SqT.of e2⟩⟩
theorem HKs.same (h : HKs K f H vs xs) (s : Same H H') : HKs K f H' vs xs := ⟨h.len, fun k d e => by
  obtain ⟨x, e1, e2⟩ := h.at_ k d e
  exact ⟨x, e1, s.seqT e2⟩⟩
theorem HKs.chgL (h : HKs K f H vs xs) (hl : H l = some (.lst us)) (c : Chg l H H') : HKs K f H' vs xs := ⟨h.len, fun k d e => by
  obtain ⟨x, e1, e2⟩ := h.at_ k d e
  exact ⟨x, e1, sqT_chg e2 hl c⟩⟩
theorem hks_nil : HKs K f H [] [] := ⟨rfl, fun k d h => by simp at h⟩
theorem HKs.snoc {x : α} {p : Addr} (h : HKs K f H vs xs) (hx : SqT K H p (f x)) : HKs K f H (vs ++ [.ref p]) (xs ++ [x]) := by
  refine ⟨by simp [h.len], fun k e he => ?_⟩
  rcases get_snoc he with ⟨hk, z⟩ | ⟨hk, rfl⟩
  · obtain ⟨y, e1, e2⟩ := h.at_ k e z
    exact ⟨y, by rw [List.getElem?_append_left (by rw [h.len]; exact hk)]; exact e1, e2⟩
  · refine ⟨p, ?_, hx⟩
    rw [List.getElem?_append_right (by rw [h.len]; omega), h.len, hk, Nat.sub_self]
    rfl
theorem HKs.app {us : List V} {ys : List α} (h : HKs K f H vs xs) (h' : HKs K f H us ys) : HKs K f H (vs ++ us) (xs ++ ys) := by
  refine ⟨by rw [List.length_append, List.length_append, h.len, h'.len], fun k x e => ?_⟩
  by_cases z : k < xs.length
  · rw [List.getElem?_append_left z] at e
    obtain ⟨p, e1, e2⟩ := h.at_ k x e
    exact ⟨p, by rw [List.getElem?_append_left (by rw [h.len]; exact z)]; exact e1, e2⟩
  · rw [List.getElem?_append_right (by omega)] at e
    obtain ⟨p, e1, e2⟩ := h'.at_ _ x e
    exact ⟨p, by rw [List.getElem?_append_right (by rw [h.len]; omega), h.len]; exact e1, e2⟩
end
structure WbK (K : PySem.W.Frag) (H : Hp) (w dl gl : Addr) (ins : Nat) (us : List V) (ds : List Wd) (os : List V) (gs : List Go) : Prop where
  tup : H w = some (.tup [.int ins, .ref dl, .ref gl])
  dll : H dl = some (.lst us)
  hds : HTs wTup H us ds
  gll : H gl = some (.lst os)
  hgs : HKs K gTp H os gs
theorem Wb.wk {K : PySem.W.Frag} {H : Hp} {w dl gl : Addr} {ins : Nat} {us : List V} {ds : List Wd} {os : List V} {gs : List Go} (h : Wb H w dl gl ins us ds os gs) : WbK K H w dl gl ins us ds os gs := ⟨h.tup, h.dll, h.hds, h.gll, h.hgs.hk⟩
theorem WbK.same {K : PySem.W.Frag} {H H' : Hp} {w dl gl : Addr} {ins : Nat} {us : List V} {ds : List Wd} {os : List V} {gs : List Go} (h : WbK K H w dl gl ins us ds os gs) (s : Same H H') : WbK K H' w dl gl ins us ds os gs :=
  ⟨s _ _ h.tup, s _ _ h.dll, h.hds.same s, s _ _ h.gll, h.hgs.same s⟩
def sT (n : Nat) : List V := [.int n, .int 0, .int 1]
end L2
set_option Elab.async false
set_option linter.all false
set_option maxRecDepth 100000
set_option maxHeartbeats 1000000
namespace L2
open PySem PySem.Spec PyProof.Rows
def rInF (K : PySem.W.Frag) (neg : Bool) : R2 := fun x y H Q => ∃ p xs, y = .ref p ∧ SqL K H p xs ∧ flatV x = true ∧ (∀ z ∈ xs, ∃ q ys, z = .ref q ∧ (SqL K H q ys ∨ SqT K H q ys)) ∧ Q (.bl neg) H
theorem vals_mem : ∀ {xs : List V} {us : List Value}, Vals xs us → ∀ u ∈ us, ∃ x ∈ xs, RelV x u
  | _, _, .nil, u, h => by cases h
  | y :: xs, v :: us, .cons r t, u, h => by
    rcases List.mem_cons.mp h with rfl | h
    · exact ⟨y, List.mem_cons_self, r⟩
    · obtain ⟨x, hx, e⟩ := vals_mem t u h
      exact ⟨x, List.mem_cons_of_mem _ hx, e⟩
section
variable {X : Cx}
theorem eqAt_LF {pins : List (Addr × Obj)} {σ : St} {H : Hp} {s : Shared} {A : Around} {x z : V} {u v : Value} (hu : A.units < cLine) (I : Inv X pins σ H s) (fx : flatV x = true) (rx : RelV x v) (rz : RelV z u) (hz : ∃ q ys, z = .ref q ∧ (SqL X.K H q ys ∨ SqT X.K H q ys)) : SeqAt.EqAt A s u v false := by
  obtain ⟨q, ys, rfl, hz | hz⟩ := hz
  · cases rz
    obtain ⟨its, _, pl, _⟩ := I.list hz
    have hl := pl.isList
    cases x with
    | non => cases rx; exact SeqAt.EqAt.list_none hl hu
    | bl b => cases rx; exact SeqAt.EqAt.list_bool b hl hu
    | int i => obtain ⟨t, rfl⟩ := rx; exact SeqAt.EqAt.list_int i t hl hu
    | str z => obtain ⟨t, rfl⟩ := rx; exact SeqAt.EqAt.list_str z t hl hu
    | _ => cases fx
  · cases rz
    obtain ⟨its, _, pl, _⟩ := I.tuple hz
    have hl : s.heap.IsTuple q its.toArray := pl
    cases x with
    | non => cases rx; exact SeqAt.EqAt.tuple_none hl hu
    | bl b => cases rx; exact SeqAt.EqAt.tuple_bool b hl hu
    | int i => obtain ⟨t, rfl⟩ := rx; exact SeqAt.EqAt.tuple_int i t hl hu
    | str z => obtain ⟨t, rfl⟩ := rx; exact SeqAt.EqAt.tuple_str z t hl hu
    | _ => cases fx
theorem op_inF {k : Nat} (hr : Room k X.A) : OpR X (compareOp .In) (rInF X.K false) := by
  intro pins s σ H x y v u Q I rx ry h
  obtain ⟨p, xs, rfl, hq, fx, fs, q⟩ := h
  cases ry
  obtain ⟨its, r, pl, hz⟩ := I.list hq
  have hu : X.A.in1.units < cLine := by
    have := hr.units
    show X.A.units + 1 < cLine
    omega
  refine SeqAt.in_listAt (fun _ => false) pl.isList (fun w hw => ?_) ⟨.bl _, H, I, rfl, ?_⟩
  · obtain ⟨z, hz1, rz⟩ := vals_mem r w (by simpa using hw)
    exact eqAt_LF hu I fx rx rz (fs z hz1)
  · rw [show its.toArray.any (fun _ => false) = false by simp]
    exact q
end
section
variable {K : PySem.W.Frag} {σ : St} {H : Hp} {Q : VK} {cs : List Nat} {te : TE}
theorem comp_LLof {α : Type} {l : Addr} {vs : List V} {xs : List α} (hl : H l = some (.lst vs)) (hlen : vs.length = xs.length) (hz : xs.length ≤ 1000) (f : α → List Int)
    (hb : ∀ (k : Nat) v x H' (R : VK), vs[k]? = some v → xs[k]? = some x → Same H H' → (∀ q H5, H' q = none → Same H' H5 → H5 q = some (.lst ((f x).map V.int)) → R (.ref q) H5) → te (some v :: capV cs σ) H' R)
    (hd : ∀ acc H', H acc = none → Same H H' → LL H' acc (xs.map f) → Q (.ref acc) H') : CompIt (Itl K l) 1 cs (gName 0) tYes te σ H Q := by
  refine comp_any xs.length (fun acc i ws H' => Same H H' ∧ H acc = none ∧ H' acc = some (.lst ws) ∧ ws.length = i ∧ ∀ (j : Nat) (c : List Int), j < i → (xs.map f)[j]? = some c → ∃ p, ws[j]? = some (.ref p) ∧ p ≠ acc ∧ H' p = some (.lst (c.map V.int))) (le_size hz) ?_ ?_ ?_ ?_ ?_ ?_
  · rintro acc i ws H' hi ⟨s, _⟩
    exact ⟨vs, vs[i]'(by omega), SqL.of (s _ _ hl), List.getElem?_eq_getElem _⟩
  · rintro acc ws H' ⟨s, _⟩
    exact ⟨vs, SqL.of (s _ _ hl), by omega⟩
  · intro acc ha
    exact ⟨same_new ha _, ha, upd_same, rfl, fun j c hj => by omega⟩
  · rintro acc i ws H' ⟨s, _, ha, hw, _⟩
    exact ⟨ha, by omega⟩
  · rintro acc i ws H' ts v H2 N hn hi ⟨s, hn', ha, hw, ht⟩ ⟨rfl, hx0⟩ hts hN
    have hx := hx0 vs (SqL.of (s _ _ hl))
    have e1 : xs[i]? = some xs[i] := List.getElem?_eq_getElem hi
    generalize xs[i] = x at e1
    obtain ⟨t0, rfl⟩ : ∃ t0, ts = [t0] := by
      match ts, hts with
      | [a], _ => exact ⟨a, rfl⟩
    rw [w_gName, w_yes, if_pos rfl]
    refine hb i v x H2 _ hx e1 s fun q H5 nq s5 hq => ?_
    have ha5 := s5 _ _ ha
    have qa : q ≠ acc := (ne_of_none ha nq).symm
    refine ⟨ha5, hN _ [some v] _ rfl ⟨same_upd hn (s.trans s5), hn', upd_same, by rw [List.length_append, hw]; rfl, fun j c hj hc => ?_⟩⟩
    by_cases z : j < i
    · obtain ⟨p', b1, b2, b3⟩ := ht j c z hc
      exact ⟨p', by rw [List.getElem?_append_left (by omega)]; exact b1, b2, by rw [upd_ne b2]; exact s5 _ _ b3⟩
    · have ej : j = i := by omega
      subst ej
      rw [List.getElem?_map, e1] at hc
      cases hc
      exact ⟨q, by rw [List.getElem?_append_right (by omega), show j - ws.length = 0 by omega]; rfl, qa, by rw [upd_ne qa]; exact hq⟩
  · rintro acc ws H' hn ⟨s, _, ha, hw, ht⟩
    refine hd acc H' hn s ⟨ws, ha, by rw [List.length_map]; exact hw, fun j c hc => ?_⟩
    exact ht j c (by have := (List.getElem?_eq_some_iff.mp hc).1; rwa [List.length_map] at this) hc
end
theorem LL.hrs {H : Hp} {l : Addr} {rs : List (List Int)} (h : LL H l rs) : ∃ vs, H l = some (.lst vs) ∧ HRs H [l] vs rs := by
  obtain ⟨vs, h1, h2, h3⟩ := h
  refine ⟨vs, h1, h2, fun k r e => ?_⟩
  obtain ⟨p, a, b, c⟩ := h3 k r e
  exact ⟨p, a, c, fun e he => by rw [List.mem_singleton.mp he]; exact b⟩
theorem in_LL {K : PySem.W.Frag} {H : Hp} {l : Addr} {rs : List (List Int)} {x : V} {Q : VK} (h : LL H l rs) (fx : flatV x = true) (q : Q (.bl false) H) : rInF K false x (.ref l) H Q := by
  obtain ⟨vs, h1, h2, h3⟩ := h
  refine ⟨l, vs, rfl, SqL.of h1, fx, fun z hz => ?_, q⟩
  obtain ⟨k, hk⟩ := List.getElem?_of_mem hz
  have kl := (List.getElem?_eq_some_iff.mp hk).1
  obtain ⟨p, a, b, c⟩ := h3 k _ (List.getElem?_eq_getElem (by omega))
  rw [a] at hk
  cases hk
  exact ⟨p, _, rfl, .inl (SqL.of c)⟩
def outsR (ins : Nat) (ds : List Wd) (gs : List Go) : List (List Int) := gs.map (outR (rowsW ins ds))
end L2
set_option Elab.async false
set_option linter.all false
set_option maxRecDepth 100000
set_option maxHeartbeats 1000000
namespace L2
open PySem PySem.Spec PyProof.Rows
theorem hks_isL {α : Type} {f : α → List V} {K : PySem.W.Frag} {H : Hp} (hf : ∀ a, (f a).all flatV = true) : ∀ {xs : List α} {vs : List V}, HKs K f H vs xs → IsL K H vs (xs.map fun a => .t ((f a).map Dt.f))
  | [], vs, h => by
    have : vs = [] := List.eq_nil_of_length_eq_zero h.len
    subst this
    rw [List.map_nil, IsL]
  | a :: r, vs, h => by
    obtain ⟨p, h1, h2⟩ := h.at_ 0 a rfl
    cases vs with
    | nil => cases h1
    | cons v vs =>
      cases h1
      rw [List.map_cons, IsL]
      refine ⟨_, _, rfl, is_tup h2 (hf a), hks_isL hf ⟨by have := h.len; simpa using this, fun k x hx => ?_⟩⟩
      exact h.at_ (k + 1) x hx
theorem WbK.is {K : PySem.W.Frag} {H : Hp} {w dl gl : Addr} {ins : Nat} {us : List V} {ds : List Wd} {os : List V} {gs : List Go} (h : WbK K H w dl gl ins us ds os gs) : Is K H (.ref w) (webDt ins ds gs) := by
  unfold webDt
  rw [Is]
  refine ⟨w, _, rfl, SqT.of h.tup, ?_⟩
  rw [IsL]
  refine ⟨_, _, rfl, by rw [Is]; exact ⟨rfl, rfl⟩, ?_⟩
  rw [IsL]
  refine ⟨_, _, rfl, ?_, ?_⟩
  · rw [Is]
    exact ⟨dl, us, rfl, SqL.of h.dll, hts_isL (fun _ => rfl) h.hds⟩
  · rw [IsL]
    refine ⟨_, _, rfl, ?_, by rw [IsL]⟩
    rw [Is]
    exact ⟨gl, os, rfl, SqL.of h.gll, hks_isL (fun _ => rfl) h.hgs⟩
theorem ne_webK {K : PySem.W.Frag} {H : Hp} {w dl gl w' dl' gl' : Addr} {ins : Nat} {us us' : List V} {ds : List Wd} {os os' : List V} {gs : List Go} {Q : VK} (h : WbK K H w dl gl ins us ds os gs) (h' : WbK K H w' dl' gl' ins us' ds os' gs) (q : Q (.bl false) H) : rNeD K (.ref w) (.ref w') H Q :=
  ⟨w, _, _, rfl, h.is, h'.is, dep_web _ _ _, by rw [deq_refl _ (h.is (K := K))]; exact q⟩
theorem WbK.chg {K : PySem.W.Frag} {H H' : Hp} {w dl gl l : Addr} {ins : Nat} {us xs : List V} {ds : List Wd} {os : List V} {gs : List Go} (h : WbK K H w dl gl ins us ds os gs) (hl : H l = some (.lst xs)) (h1 : dl ≠ l) (h2 : gl ≠ l) (c : Chg l H H') : WbK K H' w dl gl ins us ds os gs :=
  ⟨c _ _ (ne_of h.tup hl (by intro z; cases z)) h.tup, c _ _ h1 h.dll, h.hds.chgL hl c, c _ _ h2 h.gll, h.hgs.chgL hl c⟩
section
variable {c : Bool} {i1 i2 : Nat} {s1 s2 : List Wd} {t1 t2 : List Go}
def lowOk (ds : List Wd) (gs : List Go) : Prop := (∀ d ∈ ds, 0 ≤ d.s ∧ 0 ≤ d.t) ∧ ∀ g ∈ gs, 0 ≤ g.sh
end
section
variable {K : PySem.W.Frag} {σ : St} {H : Hp} {Q : VK} {cs : List Nat} {te : TE}
theorem comp_ofI {α : Type} {l : Addr} {vs : List V} {xs : List α} (hl : H l = some (.lst vs)) (hlen : vs.length = xs.length) (hz : xs.length ≤ 1000) (f : α → Int)
    (hb : ∀ (k : Nat) v x H' (R : VK), vs[k]? = some v → xs[k]? = some x → Same H H' → (∀ H5, Same H' H5 → R (.int (f x)) H5) → te (some v :: capV cs σ) H' R)
    (hd : ∀ acc H', H acc = none → Same H H' → H' acc = some (.lst ((xs.map f).map V.int)) → Q (.ref acc) H') : CompIt (Itl K l) 1 cs (gName 0) tYes te σ H Q := by
  refine comp_any xs.length (fun acc i ws H' => Same H H' ∧ H acc = none ∧ H' acc = some (.lst ws) ∧ ws = ((xs.map f).take i).map V.int) (le_size hz) ?_ ?_ ?_ ?_ ?_ ?_
  · rintro acc i ws H' hi ⟨s, _⟩
    exact ⟨vs, vs[i]'(by omega), SqL.of (s _ _ hl), List.getElem?_eq_getElem _⟩
  · rintro acc ws H' ⟨s, _⟩
    exact ⟨vs, SqL.of (s _ _ hl), by omega⟩
  · intro acc ha
    exact ⟨same_new ha _, ha, upd_same, rfl⟩
  · rintro acc i ws H' ⟨s, _, ha, hw⟩
    exact ⟨ha, by rw [hw, List.length_map, List.length_take]; omega⟩
  · rintro acc i ws H' ts v H2 N hn hi ⟨s, hn', ha, hw⟩ ⟨rfl, hx0⟩ hts hN
    have hx := hx0 vs (SqL.of (s _ _ hl))
    have e1 : xs[i]? = some xs[i] := List.getElem?_eq_getElem hi
    generalize xs[i] = x at e1
    obtain ⟨t0, rfl⟩ : ∃ t0, ts = [t0] := by
      match ts, hts with
      | [a], _ => exact ⟨a, rfl⟩
    rw [w_gName, w_yes, if_pos rfl]
    refine hb i v x H2 _ hx e1 s fun H5 s5 => ?_
    refine ⟨s5 _ _ ha, hN _ [some v] _ rfl ⟨same_upd hn (s.trans s5), hn', upd_same, ?_⟩⟩
    rw [hw, List.take_add_one, List.getElem?_map, e1, List.map_append]
    rfl
  · rintro acc ws H' hn ⟨s, _, ha, hw⟩
    refine hd acc H' hn s ?_
    rw [ha, hw, List.take_of_length_le (by rw [List.length_map]; exact Nat.le_refl _)]
end
end L2
set_option Elab.async false
set_option linter.all false
set_option maxRecDepth 100000
set_option maxHeartbeats 1000000
namespace L2
open PySem PySem.Spec PyProof.Rows
end L2
set_option Elab.async false
set_option linter.all false
set_option maxRecDepth 100000
set_option maxHeartbeats 1000000
namespace L2
open PySem PySem.Spec PyProof.Rows
section
variable {prog : Program} {w : World} {A : Around} {E : Value → Shared → Prop} {s : Shared}
end
end L2
set_option Elab.async false
set_option linter.all false
set_option maxRecDepth 100000
set_option maxHeartbeats 1000000
namespace L2
open PySem PySem.Spec PyProof.Rows
section
variable {prog : Program} {w : World} {A : Around} {E : Value → Shared → Prop} {s : Shared}
end
section
variable {prog : Program} {w : World} {A : Around} {R : Result → Shared → Prop} {I : Addr} {fp wr : List Addr} {G : Array GenState → Array GenState → Prop} {P : Nat → Value → Prop} {St : Nat → Shared → Prop}
end
section
variable {prog : Program} {w : World} {A : Around} {E : Value → Shared → Prop} {s : Shared}
end
end L2
set_option Elab.async false
set_option linter.all false
set_option maxRecDepth 100000
set_option maxHeartbeats 1000000
namespace L2
open PySem PySem.Spec PyProof.Rows
section
variable {prog : Program} {w : World} {A : Around} {E : Value → Shared → Prop} {s : Shared} {it S : Addr} {f : Value} {i n ep : Nat} {es : Array (Int × Value)} {t : SetTable}
end
end L2
set_option Elab.async false
set_option linter.all false
set_option maxRecDepth 100000
set_option maxHeartbeats 1000000
namespace L2
open PySem PySem.Spec PyProof.Rows
section
variable {prog : Program} {w : World} {A : Around} {E : Value → Shared → Prop} {s : Shared} {S : Addr} {i ep : Nat} {es : Array (Int × Value)} {t : SetTable} {ks : List Int}
end
end L2
set_option Elab.async false
set_option linter.all false
set_option maxRecDepth 100000
set_option maxHeartbeats 1000000
namespace L2
open PySem PySem.Spec PyProof.Rows
section
variable {prog : Program} {w : World} {A : Around} {E : Value → Shared → Prop} {s : Shared} {S it : Addr} {ep : Nat} {es : Array (Int × Value)} {t : SetTable} {ks : List Int}
end
end L2
set_option Elab.async false
set_option linter.all false
set_option maxRecDepth 100000
set_option maxHeartbeats 1000000
namespace L2
open PySem PySem.Spec PyProof.Rows
section
variable {prog : Program} {w : World} {A : Around} {E : Value → Shared → Prop} {s : Shared} {T : String} {r : Addr} {C : Nat → (Nat → Value → Prop) → Prop} {OK : Heap → Prop}
end
section
variable {X : Cx}
end
end L2
set_option Elab.async false
set_option linter.all false
set_option maxRecDepth 100000
set_option maxHeartbeats 1000000
namespace L2
open PySem PySem.Spec PyProof.Rows
section
variable {X : Cx}
end
end L2
set_option Elab.async false
set_option linter.all false
set_option maxRecDepth 100000
set_option maxHeartbeats 1000000
namespace L2
open PySem PySem.Spec PyProof.Rows
section
variable {X : Cx}
end
end L2
set_option Elab.async false
set_option linter.all false
set_option maxRecDepth 100000
set_option maxHeartbeats 1000000
namespace L2
open PySem PySem.Spec PyProof.Rows
section
variable {ins : Nat} {ds : List Wd}
end
section
variable {ins : Nat} {ds : List Wd} {j lo : Nat} {far : List Int}
end
end L2
set_option Elab.async false
set_option linter.all false
set_option maxRecDepth 100000
set_option maxHeartbeats 1000000
namespace L2
open PySem PySem.Spec PyProof.Rows
section
variable {K : PySem.W.Frag} {σ : St} {H : Hp} {Q : VK} {cs : List Nat} {te : TE}
end
end L2
set_option Elab.async false
set_option linter.all false
set_option maxRecDepth 100000
set_option maxHeartbeats 1000000
namespace L2
open PySem PySem.Spec PyProof.Rows
section
variable {K : PySem.W.Frag} {σ : St} {H : Hp} {Q : VK} {cs : List Nat} {tt : TT} {te : TE}
end
theorem eq_LL {K : PySem.W.Frag} {H : Hp} {l l' : Addr} {rs : List (List Int)} {Q : VK} (h : LL H l rs) (h' : LL H l' rs) (q : Q (.bl true) H) : rEqD K (.ref l) (.ref l') H Q := by
  obtain ⟨vs, a, b⟩ := h.hrs
  obtain ⟨vs', a', b'⟩ := h'.hrs
  refine ⟨l, _, _, rfl, lr_is a b, lr_is a' b', ?_, by rw [deq_refl _ (lr_is (K := K) a b)]; exact q⟩
  unfold lrDt
  have := depL_lr rs
  rw [dep]
  omega
end L2
set_option Elab.async false
set_option linter.all false
set_option maxRecDepth 100000
set_option maxHeartbeats 1000000
namespace L2
open PySem PySem.Spec PyProof.Rows
def tFrz (te : TE) : TE := fun σ H Q => te σ H fun x H1 => ∃ d kvs, x = .ref d ∧ H1 d = some (.dK kvs) ∧ ∀ o, Q x (upd H1 d (.frz o (.dK kvs)))
theorem w_frz {te : TE} {σ : St} {H : Hp} {Q : VK} : tFrz te σ H Q = (te σ H fun x H1 => ∃ d kvs, x = .ref d ∧ H1 d = some (.dK kvs) ∧ ∀ o, Q x (upd H1 d (.frz o (.dK kvs)))) := rfl
section
variable {X : Cx}
theorem pe_frz {e : Expr} {te : TE} (he : PE X e te) : PE X e (tFrz te) := by
  intro pins s σ H Q I h
  refine thn (he pins s σ H _ I h) fun v s1 ⟨x, H1, I1, r1, q1⟩ => ?_
  obtain ⟨d, kvs, rfl, hd, q⟩ := q1
  have ok := I1.hok d _ hd
  obtain ⟨z, lo, vs, rel, dd⟩ := id ok
  obtain ⟨ep, o, es, ho, _⟩ := dd.dictAt
  have I2 : Inv X pins σ (upd H1 d (.frz o (.dK kvs))) { s1 with heap := s1.heap, toks := s1.toks } := I1.write (by rw [hd]; trivial) (.inl rfl) (fun b u _ e => e) ⟨o, ho⟩ ⟨ho, ok⟩
  exact ⟨.ref d, _, I2, r1, q o⟩
def ItD (d : Addr) (o : Obj) (kvs : List (Key × V)) : It :=
  ⟨fun i H => H d = some (.frz o (.dK kvs)) ∧ i < kvs.length, fun i H x H' => H' = H ∧ (kvs.map fun q => kV q.1)[i]? = some x, fun i H => H d = some (.frz o (.dK kvs)) ∧ kvs.length ≤ i⟩
theorem kv_len : ∀ {a : List (Key × V)} {b : List (Key × Value)}, KV a b → a.length = b.length := by
  intro a b r
  induction r with
  | nil => rfl
  | cons _ _ ih => simp [ih]
theorem kv_at : ∀ {a : List (Key × V)} {b : List (Key × Value)}, KV a b → ∀ {i : Nat} {k : Key} {x : Value}, b[i]? = some (k, x) → ∃ v, a[i]? = some (k, v) := by
  intro a b r
  induction r with
  | nil => intro i k x h; simp at h
  | @cons p q _ _ h _ ih =>
    intro i k x e
    cases i with
    | zero =>
      simp only [List.getElem?_cons_zero, Option.some.injEq] at e
      subst e
      refine ⟨p.2, ?_⟩
      simp only [List.getElem?_cons_zero, Option.some.injEq]
      exact Prod.ext h.1 rfl
    | succ i => exact ih (by simpa using e)
theorem frz_at {P : Program} {w : World} {H : Hp} {h : Heap} {d : Addr} {o : Obj} {kvs : List (Key × V)} (ok : HOk P w H h) (e : H d = some (.frz o (.dK kvs))) : h.get? d = some o ∧ (d == sysModules) = false ∧ ∃ vs ep es, KV kvs vs ∧ o.data = .dict es ep ∧ h.DictAt (mixKind P w) d vs ep := by
  obtain ⟨ho, z, lo, vs, rel, dd⟩ := ok d _ e
  obtain ⟨ep, hat⟩ := dd.dictAt
  obtain ⟨o', es, ho', hc, hdat, _⟩ := id hat
  rw [ho] at ho'
  cases ho'
  exact ⟨ho, lo, vs, ep, es, rel, hdat, hat⟩
theorem turn_dict {P : Program} {w : World} {K : PySem.W.Frag} {tg : Expr} (d it : Addr) (o : Obj) (kvs : List (Key × V)) (es : Array DictEntry) (ep : Nat) (ho : o.data = .dict es ep) : Turn P w K tg (ItD d o kvs) [it] it (fun i h => h.IsKeyIter it d i kvs.length ep) where
  mem := by simp
  obj := fun i h st b hb => by
    have e : b = it := by simpa using hb
    subst e
    obtain ⟨u, e, c, dd⟩ := st
    exact ⟨u, e, fun v z => by rw [dd] at z; cases z⟩
  keep := fun i h h' st k => st.at fun o e => k it (by simp) o e
  item := by
    intro X hP hw hK hc i pins s σ H E I hf st hg
    subst hP hw hK
    obtain ⟨hd, hi⟩ := hg
    obtain ⟨_, lo, vs, ep', es', rel, ho', hat⟩ := frz_at I.hok hd
    rw [ho] at ho'
    cases ho'
    have kl := kv_len rel
    obtain ⟨⟨k, x⟩, hx⟩ : ∃ p, vs[i]? = some p := ⟨vs[i]'(by omega), List.getElem?_eq_getElem _⟩
    obtain ⟨v, hv⟩ := kv_at rel hx
    obtain ⟨f0, f1, f2, f3, f4, f5⟩ := hf it (by simp)
    rw [kl] at st
    refine wpAny_pyNext_dict_item st hat hx fun key h' hkey st' sb => ?_
    have I1 : Inv X pins σ H { s with heap := h' } := I.turned (t' := s.toks) (fun b o hb e => (sb.2 b hb).trans e) f0 f1 f3 f4 f5
    obtain ⟨u, e, c, dd⟩ := id st'
    refine ⟨key, rfl, go_of (s := { s with heap := h' }) e c dd (by decide) ⟨kV k, H, I1, key_rel hkey, ⟨rfl, by rw [List.getElem?_map, hv]; rfl⟩, by rw [kl]; exact st', fun b hb => (hf b hb).1⟩⟩
  done := by
    intro X hP hw hK hc i pins s σ H E I hf st hg
    subst hP hw hK
    obtain ⟨hd, hi⟩ := hg
    obtain ⟨_, lo, vs, ep', es', rel, ho', hat⟩ := frz_at I.hok hd
    rw [ho] at ho'
    cases ho'
    have kl := kv_len rel
    obtain ⟨f0, f1, f2, f3, f4, f5⟩ := hf it (by simp)
    rw [kl] at st
    exact wpAny_pyNext_dict_end (I.ok.hd hc) st hat (List.getElem?_eq_none (by omega)) fun h' eb => ⟨rfl, I.turned (t' := s.toks) (fun b o hb e => eb b o hb e) f0 f1 f3 f4 f5⟩
  self := fun _ _ _ _ _ st h => wpAny_pyIter_keyiter st h
def iDict (tl : TE) : TI := fun σ H R => tl σ H fun x H1 => ∃ d o kvs, x = .ref d ∧ H1 d = some (.frz o (.dK kvs)) ∧ R (ItD d o kvs) H1
theorem pi_dict {tg l : Expr} {tl : TE} (hl : PE X l tl) : PI X tg l (iDict tl) := by
  intro pins s σ H R I h
  refine thn (hl pins s σ H _ I h) fun v s1 ⟨x, H1, I1, r1, q1⟩ => ?_
  obtain ⟨d, o, kvs, rfl, hd, q⟩ := q1
  cases r1
  obtain ⟨ho, lo, vs, ep, es, rel, hdat, hat⟩ := frz_at I1.hok hd
  refine wpAny_pyIter_dict lo hat ?_
  refine ⟨s1.heap.objs.size, [s1.heap.objs.size], _, _, H1, rfl, I1.kept (t' := s1.toks) fun b o e => Heap.get?_push_of_some _ e, turn_dict d _ o kvs es ep hdat, ⟨_, Heap.get?_push_size _ rfl, rfl, by rw [kv_len rel]; rfl⟩, fun b hb => ?_, q⟩
  have e : b = s1.heap.objs.size := by simpa using hb
  subst e
  exact I1.fpOk (Nat.le_refl _) (I1.hok.fresh (Nat.le_refl _))
theorem w_compD {tl : TE} {nt : Nat} {cs : List Nat} {g : TG} {tt : TT} {te : TE} {σ : St} {H : Hp} {Q : VK} : tComp (iDict tl) nt cs g tt te σ H Q = (tl σ H fun x H1 => ∃ d o kvs, x = .ref d ∧ H1 d = some (.frz o (.dK kvs)) ∧ CompIt (ItD d o kvs) nt cs g tt te σ H1 Q) := rfl
theorem it_D {d : Addr} {o : Obj} {kvs : List (Key × V)} {H : Hp} (h : H d = some (.frz o (.dK kvs))) {H' : Hp} (s : Same H H') : (∀ i, i < (kvs.map fun q => kV q.1).length → (ItD d o kvs).go i H') ∧ (∀ i x H2, (ItD d o kvs).yld i H' x H2 → H2 = H' ∧ (i < (kvs.map fun q => kV q.1).length → (kvs.map fun q => kV q.1)[i]? = some x)) ∧ (ItD d o kvs).stop (kvs.map fun q => kV q.1).length H' := by
  refine ⟨fun i hi => ⟨s _ _ h, by rwa [List.length_map] at hi⟩, fun i x H2 y => ⟨y.1, fun _ => y.2⟩, ⟨s _ _ h, by rw [List.length_map]; exact Nat.le_refl _⟩⟩
end
end L2
set_option Elab.async false
set_option linter.all false
set_option maxRecDepth 100000
set_option maxHeartbeats 1000000
namespace L2
open PySem PySem.Spec PyProof.Rows
def pm (some_ : List Int) (h : Int) : List Int := some_.flatMap fun r => [h + r, h - r]
theorem nodup_len : ∀ {l m : List Int}, l.Nodup → (∀ x ∈ l, x ∈ m) → l.length ≤ m.length
  | [], m, _, _ => Nat.zero_le _
  | a :: r, m, nd, h => by
    have nd' := List.nodup_cons.mp nd
    have am := h a List.mem_cons_self
    have := nodup_len (m := m.erase a) nd'.2 fun x hx => by
      have xa : x ≠ a := fun e => nd'.1 (e ▸ hx)
      exact (List.mem_erase_of_ne xa).mpr (h x (List.mem_cons_of_mem _ hx))
    rw [List.length_erase_of_mem am] at this
    have ml := List.length_pos_of_mem am
    rw [List.length_cons]
    omega
end L2
set_option Elab.async false
set_option linter.all false
set_option maxRecDepth 100000
set_option maxHeartbeats 1000000
namespace L2
open PySem PySem.Spec PyProof.Rows
section
variable {K : PySem.W.Frag} {σ : St} {H : Hp} {Q : VK} {cs : List Nat} {te : TE}
end
end L2
set_option Elab.async false
set_option linter.all false
set_option maxRecDepth 100000
set_option maxHeartbeats 1000000
namespace L2
open PySem PySem.Spec PyProof.Rows
section
variable {prog : Program} {w : World} {A : Around} {E : Value → Shared → Prop} {s : Shared} {K : PySem.W.Frag} {x C dx : Addr} {ox : Obj} {name : Str} {v : Value}
end
section
variable {prog : Program} {w : World} {A : Around} {E : Value → Shared → Prop} {h : Heap} {g : Array GenState} {d : Drawn} {t : Nat} {os : OsState}
variable {nm q : Str} {C N : Addr} {bs bm bmB : List Value} {hdct : Bool} {sn : List Str} {sub : List Value} {ab : Bool} {col : Option Bool} {dd : Option Addr} {k0 k1 k2 k3 k5 : Option Value} {B newId initId : String}
end
end L2
set_option Elab.async false
set_option linter.all false
set_option maxRecDepth 100000
set_option maxHeartbeats 1000000
namespace L2
open PySem PySem.Spec PyProof.Rows
section
variable {X : Cx} {pins : List (Addr × Obj)} {σ : St} {H : Hp} {s : Shared} {x C t : Addr} {f : Str}
end
end L2
set_option Elab.async false
set_option linter.all false
set_option maxRecDepth 100000
set_option maxHeartbeats 1000000
namespace L2
open PySem PySem.Spec PyProof.Rows
section
variable {M : Model} {A : Around} {E : Value → Shared → Prop} {env : Env}
variable {nm q : Str} {C N : Addr} {bs bm : List Value} {hdct : Bool} {sn : List Str} {sub : List Value} {ab : Bool} {col : Option Bool} {dd : Option Addr} {k0 k1 k2 k3 k5 : Option Value} {newId : String}
end
section
variable {X : Cx} {C : Addr} {f : Str}
end
end L2
set_option Elab.async false
set_option linter.all false
set_option maxRecDepth 100000
set_option maxHeartbeats 1000000
namespace L2
open PySem PySem.Spec PyProof.Rows
section
variable {prog : Program} {w : World} {A : Around} {E : Value → Shared → Prop} {s : Shared} {K : PySem.W.Frag} {x D : Addr} {o : Obj} {od : Option Obj}
end
end L2
set_option Elab.async false
set_option linter.all false
set_option maxRecDepth 100000
set_option maxHeartbeats 1000000
namespace L2
open PySem PySem.Spec PyProof.Rows
section
variable {α : Type} {p : α → Bool} {l : List α} {i : Nat} {x : α}
end
section
variable {K : PySem.W.Frag} {σ : St} {H : Hp} {Q : VK} {cs : List Nat} {te : TE}
end
section
variable {K : PySem.W.Frag} {σ : St} {H : Hp} {Q : VK} {cs : List Nat} {te : TE}
end
end L2
set_option Elab.async false
set_option linter.all false
set_option maxRecDepth 100000
set_option maxHeartbeats 1000000
namespace L2
open PySem PySem.Spec PyProof.Rows
end L2
set_option Elab.async false
set_option linter.all false
set_option maxRecDepth 100000
set_option maxHeartbeats 1000000
namespace L2
open PySem PySem.Spec PyProof.Rows PySem.W
section
variable {key : Nat → Int} {n : Nat} {p q : Array Nat}
end
end L2
set_option Elab.async false
set_option linter.all false
set_option maxRecDepth 100000
set_option maxHeartbeats 1000000
namespace L2
open PySem PySem.Spec PyProof.Rows PySem.W
section
variable {prog : Program} {w : World} {A : Around} {E : Value → Shared → Prop} {s : Shared} {vs : List Value} {ks : List Int}
end
end L2
set_option Elab.async false
set_option linter.all false
set_option maxRecDepth 100000
set_option maxHeartbeats 1000000
namespace L2
open PySem PySem.Spec PyProof.Rows PySem.W
mutual
theorem Is.same {K : PySem.W.Frag} {H H' : Hp} (s : Same H H') : ∀ {d : Dt} {v : V}, Is K H v d → Is K H' v d
  | .f y, v, h => by rw [Is] at h ⊢; exact h
  | .l ds, v, h => by
    rw [Is] at h ⊢
    obtain ⟨p, xs, e, h1, h2⟩ := h
    exact ⟨p, xs, e, s.seq h1, IsL.same s h2⟩
  | .t ds, v, h => by
    rw [Is] at h ⊢
    obtain ⟨p, xs, e, h1, h2⟩ := h
    exact ⟨p, xs, e, s.seqT h1, IsL.same s h2⟩
theorem IsL.same {K : PySem.W.Frag} {H H' : Hp} (s : Same H H') : ∀ {ds : List Dt} {vs : List V}, IsL K H vs ds → IsL K H' vs ds
  | [], vs, h => by rw [IsL] at h ⊢; exact h
  | d :: ds, vs, h => by
    rw [IsL] at h ⊢
    obtain ⟨x, r, e, h1, h2⟩ := h
    exact ⟨x, r, e, Is.same s h1, IsL.same s h2⟩
end
section
variable {K : PySem.W.Frag} {σ : St} {H : Hp} {Q : VK} {cs : List Nat} {te : TE}
end
end L2
set_option Elab.async false
set_option linter.all false
set_option maxRecDepth 100000
set_option maxHeartbeats 1000000
namespace L2
open PySem PySem.Spec PyProof.Rows
end L2
set_option Elab.async false
set_option linter.all false
set_option maxRecDepth 100000
set_option maxHeartbeats 1000000
namespace L2
open PySem PySem.Spec PyProof.Rows
section
variable {X : Cx} {pos : Pos}
end
end L2
set_option Elab.async false
set_option linter.all false
set_option maxRecDepth 100000
set_option maxHeartbeats 1000000
namespace L2
open PySem PySem.Spec PyProof.Rows
end L2
set_option Elab.async false
set_option linter.all false
set_option maxRecDepth 100000
set_option maxHeartbeats 1000000
namespace L2
open PySem PySem.Spec PyProof.Rows
def Ex (s v : Int) : Prop := s < 0 → (2 : Int) ^ (-s).toNat ∣ v
def Sx (s v w : Int) : Prop := w * 2 ^ (-s).toNat = v * 2 ^ s.toNat
theorem Ex.sx {s v : Int} (h : Ex s v) : Sx s v (mvI s v) := by
  unfold Sx
  by_cases z : s < 0
  · rw [mvI_down z, show s.toNat = 0 by omega, Int.pow_zero, Int.mul_one]
    exact Int.ediv_mul_cancel (h z)
  · rw [mvI_up (by omega), show (-s).toNat = 0 by omega, Int.pow_zero, Int.mul_one]
theorem Sx.ex {s v w : Int} (h : Sx s v w) : Ex s v ∧ mvI s v = w := by
  unfold Sx at h
  by_cases z : s < 0
  · rw [show s.toNat = 0 by omega, Int.pow_zero, Int.mul_one] at h
    refine ⟨fun _ => ⟨w, by rw [← h, Int.mul_comm]⟩, ?_⟩
    rw [mvI_down z, ← h]
    exact Int.mul_ediv_cancel _ (by have := pow_pos2 (-s).toNat; omega)
  · rw [show (-s).toNat = 0 by omega, Int.pow_zero, Int.mul_one] at h
    exact ⟨fun y => absurd y z, by rw [mvI_up (by omega), h]⟩
theorem Sx.add {s t v w u : Int} (h1 : Sx s v w) (h2 : Sx t w u) : Sx (s + t) v u := by
  unfold Sx at *
  obtain ⟨c, e1, e2⟩ : ∃ c : Nat, (-t).toNat + (-s).toNat = (-(s + t)).toNat + c ∧ s.toNat + t.toNat = (s + t).toNat + c := ⟨(-t).toNat + (-s).toNat - (-(s + t)).toNat, by omega, by omega⟩
  have pc := pow_pos2 c
  have k : u * 2 ^ ((-t).toNat + (-s).toNat) = v * 2 ^ (s.toNat + t.toNat) := by
    rw [Int.pow_add, Int.pow_add, ← Int.mul_assoc, h2, ← Int.mul_assoc, ← h1, Int.mul_assoc, Int.mul_assoc, Int.mul_comm (2 ^ t.toNat)]
  rw [e1, e2, Int.pow_add, Int.pow_add, ← Int.mul_assoc, ← Int.mul_assoc] at k
  exact Int.eq_of_mul_eq_mul_right (by omega) k
theorem mv_add {s t v : Int} (h1 : Ex s v) (h2 : Ex t (mvI s v)) : Ex (s + t) v ∧ mvI (s + t) v = mvI t (mvI s v) := (h1.sx.add h2.sx).ex
theorem Ex.neg {s v : Int} (h : Ex s v) : Ex s (-v) := fun z => Int.dvd_neg.mpr (h z)
theorem mv_neg {s v : Int} (h : Ex s v) : mvI s (-v) = - mvI s v := by
  refine (Sx.ex ?_).2
  have := h.sx
  unfold Sx at *
  rw [Int.neg_mul, Int.neg_mul, this]
def movG (p : Go) (s g : Int) : Go := if p.sg * g = 0 then ⟨0, 0, 0⟩ else ⟨p.th, p.sh + s, p.sg * g⟩
def deedG (p q : Go) : Wd := if p.sg = q.sg then ⟨Str.ofString "sum", p.th, p.sh, q.th, q.sh⟩ else if p.sg = 1 then ⟨Str.ofString "less", p.th, p.sh, q.th, q.sh⟩ else ⟨Str.ofString "less", q.th, q.sh, p.th, p.sh⟩
def signG (p q : Go) : Int := if p.sg = q.sg then p.sg else 1
def addG (ins : Nat) (ds : List Wd) (p q : Go) : List Wd := if p.sg = 0 then ds else if q.sg = 0 then ds else ds ++ [deedG p q]
def addP (ins : Nat) (ds : List Wd) (p q : Go) : Go := if p.sg = 0 then q else if q.sg = 0 then p else ⟨ins + ds.length, 0, signG p q⟩
def g0 : Go := ⟨0, 0, 0⟩
def SgOk (p : Go) : Prop := p = g0 ∨ p.sg = 1 ∨ p.sg = -1
theorem SgOk.cases {p : Go} (h : SgOk p) : (p.sg = 0 ∧ p = g0) ∨ p.sg = 1 ∨ p.sg = -1 := by
  rcases h with z | z | z
  · exact .inl ⟨by rw [z]; rfl, z⟩
  · exact .inr (.inl z)
  · exact .inr (.inr z)
structure PtOkV (n : Nat) (vs : List Int) (p : Go) : Prop where
  th : p.th < n
  sg : SgOk p
  ex : Ex p.sh (vs.getD p.th 0)
theorem mov_val {n : Nat} {vs : List Int} {p : Go} {s g : Int} (h : PtOkV n vs p) (hn : 0 < n) (hg : g = 1 ∨ g = -1) (he : Ex s (outV vs p)) : PtOkV n vs (movG p s g) ∧ outV vs (movG p s g) = g * mvI s (outV vs p) := by
  rcases h.sg.cases with ⟨z, z0⟩ | z
  · have e : movG p s g = g0 := by unfold movG; rw [if_pos (by rw [z, Int.zero_mul])]; rfl
    rw [e]
    refine ⟨⟨hn, .inl rfl, fun y => absurd y (by decide)⟩, ?_⟩
    unfold outV g0
    rw [z, Int.zero_mul, Int.zero_mul, mvI_0, Int.mul_zero]
  · have e : movG p s g = ⟨p.th, p.sh + s, p.sg * g⟩ := by
      unfold movG
      rw [if_neg]
      rcases z with z | z <;> rcases hg with y | y <;> rw [z, y] <;> decide
    have he' : Ex s (mvI p.sh (vs.getD p.th 0)) := by
      unfold outV at he
      rcases z with z | z
      · rw [z, Int.one_mul] at he; exact he
      · rw [z, Int.neg_one_mul] at he
        have := he.neg
        rw [Int.neg_neg] at this
        exact this
    obtain ⟨m1, m2⟩ := mv_add h.ex he'
    rw [e]
    refine ⟨⟨h.th, .inr ?_, m1⟩, ?_⟩
    · show p.sg * g = 1 ∨ p.sg * g = -1
      rcases z with z | z <;> rcases hg with y | y <;> rw [z, y] <;> decide
    · unfold outV
      show p.sg * g * mvI (p.sh + s) (vs.getD p.th 0) = _
      rw [m2]
      rcases z with z | z
      · rw [z, Int.one_mul, Int.one_mul]
      · rw [z, Int.neg_one_mul (mvI p.sh _), mv_neg he', Int.neg_one_mul, Int.neg_mul, Int.mul_neg]
theorem deedG_val {vs : List Int} {p q : Go} (hp : p.sg = 1 ∨ p.sg = -1) (hq : q.sg = 1 ∨ q.sg = -1) : signG p q * valD vs (deedG p q) = outV vs p + outV vs q := by
  unfold deedG signG valD outV
  have l1 : sgW (Str.ofString "sum") = 1 := by decide
  have l2 : sgW (Str.ofString "less") = -1 := by decide
  rcases hp with z | z <;> rcases hq with y | y <;> rw [z, y]
  · rw [if_pos rfl, if_pos rfl]; simp only [l1, Int.one_mul]
  · rw [if_neg (by decide), if_neg (by decide), if_pos rfl]; simp only [l2, Int.one_mul]
  · rw [if_neg (by decide), if_neg (by decide), if_neg (by decide)]; simp only [l2, Int.one_mul]; rw [Int.add_comm]
  · rw [if_pos rfl, if_pos rfl]; simp only [l1, Int.one_mul]; rw [Int.mul_add]
def ExD (xs : List Int) (ds : List Wd) : Prop := ∀ (k : Nat) (d : Wd), ds[k]? = some d → d.a < xs.length + k ∧ d.b < xs.length + k ∧ (d.w = "sum" ∨ d.w = "less") ∧ Ex d.s ((valsW xs ds).getD d.a 0) ∧ Ex d.t ((valsW xs ds).getD d.b 0)
theorem ExD.snoc {xs : List Int} {e : List Wd} {d : Wd} (h : ExD xs e) (h1 : d.a < xs.length + e.length) (h2 : d.b < xs.length + e.length) (h3 : d.w = "sum" ∨ d.w = "less") (h4 : Ex d.s ((valsW xs e).getD d.a 0)) (h5 : Ex d.t ((valsW xs e).getD d.b 0)) : ExD xs (e ++ [d]) := fun k x hk => by
  rcases get_snoc hk with ⟨kl, z⟩ | ⟨kl, rfl⟩
  · obtain ⟨a1, a2, a3, a4, a5⟩ := h k x z
    rw [valsW_stay (by omega), valsW_stay (by omega)]
    exact ⟨a1, a2, a3, a4, a5⟩
  · rw [valsW_stay h1, valsW_stay h2, kl]
    exact ⟨h1, h2, h3, h4, h5⟩
theorem PtOkV.more {xs : List Int} {ds : List Wd} {d : Wd} {p : Go} (h : PtOkV (xs.length + ds.length) (valsW xs ds) p) : PtOkV (xs.length + (ds ++ [d]).length) (valsW xs (ds ++ [d])) p ∧ outV (valsW xs (ds ++ [d])) p = outV (valsW xs ds) p := by
  refine ⟨⟨by have := h.th; rw [List.length_append]; simp; omega, h.sg, by rw [valsW_stay h.th]; exact h.ex⟩, ?_⟩
  unfold outV
  rw [valsW_stay h.th]
end L2
set_option Elab.async false
set_option linter.all false
set_option maxRecDepth 100000
set_option maxHeartbeats 1000000
namespace L2
open PySem PySem.Spec PyProof.Rows
def spDArrK (K : PySem.W.Frag) : Sp := fun vs H Q _ => ∃ (w dl gl : Addr) (ins : Nat) (us : List V) (ds : List Wd) (os : List V) (gs : List Go), vs = [.ref w] ∧ WbK K H w dl gl ins us ds os gs ∧ ds.length ≤ 400 ∧
  ∀ r ws H', H r = none → Same H H' → H' r = some (.lst ws) → HTs aTup H' ws (arrF ins 0 ds) → Q (.ref r) H'
section
variable {K : PySem.W.Frag} {σ : St} {H : Hp} {Q : VK} {cs : List Nat} {te : TE} {tt : TT}
end
def spMovE (K : PySem.W.Frag) : Sp := fun vs H Q _ => ∃ (p : Addr) (P : Go) (s g : Int), vs = [.ref p, .int s, .int g] ∧ SqT K H p (gTp P) ∧ (g = 0 ∨ g = 1 ∨ g = -1) ∧
  ∀ r H', Same H H' → SqT K H' r (gTp (movG P s g)) → Q (.ref r) H'
def spDeedE (K : PySem.W.Frag) : Sp := fun vs H Q _ => ∃ (p q : Addr) (P R : Go), vs = [.ref p, .ref q] ∧ SqT K H p (gTp P) ∧ SqT K H q (gTp R) ∧ ∀ r H', H r = none → Same H H' → H' r = some (.tup (wTup (deedG P R))) → Q (.ref r) H'
def spSignE (K : PySem.W.Frag) : Sp := fun vs H Q _ => ∃ (p q : Addr) (P R : Go), vs = [.ref p, .ref q] ∧ SqT K H p (gTp P) ∧ SqT K H q (gTp R) ∧ Q (.int (signG P R)) H
def spAddE (K : PySem.W.Frag) : Sp := fun vs H Q _ => ∃ (ins : Nat) (dl p q : Addr) (us : List V) (ds : List Wd) (P R : Go), vs = [.int ins, .ref dl, .ref p, .ref q] ∧ H dl = some (.lst us) ∧ HTs wTup H us ds ∧ SqT K H p (gTp P) ∧ SqT K H q (gTp R) ∧ us.length ≤ 900 ∧
  ∀ r us' H', Chg dl H H' → H' dl = some (.lst us') → HTs wTup H' us' (addG ins ds P R) → SqT K H' r (gTp (addP ins ds P R)) → Q (.ref r) H'
end L2
set_option Elab.async false
set_option linter.all false
set_option maxRecDepth 100000
set_option maxHeartbeats 1000000
namespace L2
open PySem PySem.Spec PyProof.Rows
def Sh4 (s : Int) (r : List Int) : Prop := -4000 ≤ s ∧ s ≤ 4000 ∧ Dv s r
structure FW4 (ins : Nat) (ds : List Wd) (gs : List Go) : Prop where
  ok : WebOk ins ds gs
  sh : ∀ (k : Nat) (d : Wd), ds[k]? = some d → d.a < ins + k ∧ d.b < ins + k ∧ Sh4 d.s ((rowsW ins ds).getD d.a []) ∧ Sh4 d.t ((rowsW ins ds).getD d.b [])
  go : ∀ g ∈ gs, g = ⟨0, 0, 0⟩ ∨ ((g.sg = 1 ∨ g.sg = -1) ∧ Sh4 g.sh ((rowsW ins ds).getD g.th []))
  rb : RB 8000 (rowsW ins ds)
  wd : ∀ r ∈ rowsW ins ds, r.length = ins
theorem unit_sym {n i k : Nat} (hi : i < n) (hk : k < n) : (unitRow n k).getD i 0 = (unitRow n i).getD k 0 := by
  unfold unitRow
  rw [List.getD_eq_getElem?_getD, List.getD_eq_getElem?_getD, List.getElem?_map, List.getElem?_map, List.getElem?_range hi, List.getElem?_range hk]
  show (if i = k then (1 : Int) else 0) = if k = i then 1 else 0
  by_cases z : i = k
  · rw [if_pos z, if_pos z.symm]
  · rw [if_neg z, if_neg (fun h => z h.symm)]
theorem getD_map {α : Type} {f : α → Int} {r : List α} {a : α} {i : Nat} (h : i < r.length) : (r.map f).getD i 0 = f (r.getD i a) := by
  have e := List.getElem?_eq_getElem h
  rw [List.getD_eq_getElem?_getD, List.getElem?_map, e, getD_of e]
  rfl
theorem rows_col {ins : Nat} (ds : List Wd) : (∀ (k : Nat) (d : Wd), ds[k]? = some d → d.a < ins + k ∧ d.b < ins + k) → ∀ k, k < ins + ds.length → ((rowsW ins ds).getD k []).length = ins ∧ ∀ i, i < ins → ((rowsW ins ds).getD k []).getD i 0 = (valsW (unitRow ins i) ds).getD k 0 := by
  refine snoc_ind (p := fun ds => (∀ (k : Nat) (d : Wd), ds[k]? = some d → d.a < ins + k ∧ d.b < ins + k) → ∀ k, k < ins + ds.length → ((rowsW ins ds).getD k []).length = ins ∧ ∀ i, i < ins → ((rowsW ins ds).getD k []).getD i 0 = (valsW (unitRow ins i) ds).getD k 0) (fun _ k hk => ?_) (fun e d ih hE k hk => ?_) ds
  · have e : (rowsW ins []).getD k [] = unitRow ins k := rowsW_unit (by simpa using hk)
    rw [e]
    exact ⟨unitRow_len _ _, fun i hi => unit_sym hi (by simpa using hk)⟩
  · have ih' := ih fun k x h => hE k x (by rw [List.getElem?_append_left (List.getElem?_eq_some_iff.mp h).1]; exact h)
    rw [List.length_append, List.length_singleton] at hk
    by_cases z : k < ins + e.length
    · obtain ⟨h1, h2⟩ := ih' k z
      rw [rows_stay _ _ _ z]
      exact ⟨h1, fun i hi => by rw [h2 i hi, valsW_stay (by rw [unitRow_len]; exact z)]⟩
    · have kk : k = ins + e.length := by omega
      obtain ⟨da, db⟩ := hE e.length d (by rw [List.getElem?_append_right (Nat.le_refl _), Nat.sub_self]; rfl)
      obtain ⟨a1, a2⟩ := ih' _ da
      obtain ⟨b1, b2⟩ := ih' _ db
      have er : (rowsW ins (e ++ [d])).getD k [] = rowD (rowsW ins e) d := by
        rw [rowsW_snoc, kk]
        refine getD_of ?_
        rw [List.getElem?_append_right (by rw [rowsW_len]; exact Nat.le_refl _), rowsW_len, Nat.sub_self]
        rfl
      rw [er]
      refine ⟨by unfold rowD; rw [List.length_zipWith, a1, b1, Nat.min_self], fun i hi => ?_⟩
      have ev : (valsW (unitRow ins i) (e ++ [d])).getD k 0 = valD (valsW (unitRow ins i) e) d := by
        rw [valsW_snoc, kk]
        refine getD_of ?_
        rw [List.getElem?_append_right (by rw [valsW_len, unitRow_len]; exact Nat.le_refl _), valsW_len, unitRow_len, Nat.sub_self]
        rfl
      rw [ev]
      unfold rowD valD
      rw [← a2 i hi, ← b2 i hi]
      have ea := List.getElem?_eq_getElem (l := (rowsW ins e).getD d.a []) (i := i) (by omega)
      have eb := List.getElem?_eq_getElem (l := (rowsW ins e).getD d.b []) (i := i) (by omega)
      rw [getD_of ea, getD_of eb]
      refine getD_of ?_
      rw [List.getElem?_zipWith, ea, eb]
theorem outR_col {ins : Nat} {ds : List Wd} {g : Go} {i : Nat} (dk : ∀ (k : Nat) (d : Wd), ds[k]? = some d → d.a < ins + k ∧ d.b < ins + k) (hg : g.th < ins + ds.length) (hi : i < ins) : (outR (rowsW ins ds) g).getD i 0 = outV (valsW (unitRow ins i) ds) g := by
  obtain ⟨h1, h2⟩ := rows_col ds dk g.th hg
  unfold outR outV
  rw [getD_map (a := 0) (by omega), h2 i hi]
section
variable {ins m : Nat} {s1 s2 : List Wd} {t1 t2 : List Go}
def colM (M : List (List Int)) (i : Nat) : List Int := M.map fun r => r.getD i 0
end
end L2
set_option Elab.async false
set_option linter.all false
set_option maxRecDepth 100000
set_option maxHeartbeats 1000000
namespace L2
open PySem PySem.Spec PyProof.Rows
section
variable {K : PySem.W.Frag} {σ : St} {H : Hp} {Q : VK} {cs : List Nat} {te : TE}
end
section
variable {K : PySem.W.Frag} {σ : St} {H : Hp} {Q : VK} {cs : List Nat} {te : TE}
end
end L2
set_option Elab.async false
set_option linter.all false
set_option maxRecDepth 100000
set_option maxHeartbeats 1000000
namespace L2
open PySem PySem.Spec PyProof.Rows
theorem dotW_comm : ∀ (a b : List Int), dotW a b = dotW b a
  | [], b => by rw [dotW_nil]; cases b <;> rfl
  | a :: r, [] => rfl
  | a :: r, b :: s => by
    show a * b + dotW r s = b * a + dotW s r
    rw [dotW_comm r s, Int.mul_comm]
theorem dot_set : ∀ (zs V : List Int) (i : Nat) (c : Int), i < zs.length → dotW (zs.set i (zs.getD i 0 + c)) V = dotW zs V + c * V.getD i 0
  | [], V, i, c, h => by simp at h
  | z :: zs, [], i, c, h => by
    rw [dotW_comm, dotW_nil, dotW_comm (z :: zs), dotW_nil]
    simp
  | z :: zs, v :: V, 0, c, h => by
    show (z + c) * v + dotW zs V = z * v + dotW zs V + c * v
    rw [Int.add_mul]; omega
  | z :: zs, v :: V, i + 1, c, h => by
    show z * v + dotW (zs.set i (zs.getD i 0 + c)) V = z * v + dotW zs V + c * V.getD i 0
    rw [dot_set zs V i c (by simpa using h)]; omega
theorem dot_snocR : ∀ (zs V : List Int) (v : Int), V.length < zs.length → dotW zs (V ++ [v]) = dotW zs V + zs.getD V.length 0 * v
  | [], V, v, h => by simp at h
  | z :: zs, [], v, h => by
    show z * v + dotW zs [] = dotW (z :: zs) [] + z * v
    rw [dotW_comm zs, dotW_nil, dotW_comm (z :: zs), dotW_nil]; omega
  | z :: zs, u :: V, v, h => by
    show z * u + dotW zs (V ++ [v]) = z * u + dotW zs V + zs.getD V.length 0 * v
    rw [dot_snocR zs V v (by simpa using h)]; omega
theorem mv_mul {s z v : Int} (h : 0 ≤ s) : mvI s z * v = z * mvI s v := by
  rw [mvI_up h, mvI_up h, Int.mul_assoc, Int.mul_comm (2 ^ s.toNat) v]
def zT (zs : List Int) (a : Ar) : List Int := zs.set a.st (zs.getD a.st 0 + a.sg * mvI a.sh (zs.getD a.go 0))
def zF (zs : List Int) (as : List Ar) : List Int := as.reverse.foldl zT zs
theorem zF_snoc (zs : List Int) (as : List Ar) (a : Ar) : zF zs (as ++ [a]) = zF (zT zs a) as := by unfold zF; rw [List.reverse_append]; rfl
theorem zF_app (zs : List Int) (as bs : List Ar) : zF zs (as ++ bs) = zF (zF zs bs) as := by unfold zF; rw [List.reverse_append, List.foldl_append]
theorem zT_len (zs : List Int) (a : Ar) : (zT zs a).length = zs.length := by unfold zT; rw [List.length_set]
theorem zF_len (as : List Ar) : ∀ zs : List Int, (zF zs as).length = zs.length := by
  refine snoc_ind (p := fun as => ∀ zs : List Int, (zF zs as).length = zs.length) (fun _ => rfl) (fun e a ih zs => ?_) as
  rw [zF_snoc, ih, zT_len]
theorem getD_set_ne {zs : List Int} {i j : Nat} {v : Int} (h : i ≠ j) : (zs.set i v).getD j 0 = zs.getD j 0 := by
  rw [List.getD_eq_getElem?_getD, List.getD_eq_getElem?_getD, List.getElem?_set_ne h]
theorem zF_deeds {xs : List Int} (ds : List Wd) : (∀ (k : Nat) (d : Wd), ds[k]? = some d → d.a < xs.length + k ∧ d.b < xs.length + k ∧ 0 ≤ d.s ∧ 0 ≤ d.t) → ∀ zs : List Int, xs.length + ds.length ≤ zs.length → dotW (zF zs (arrF xs.length 0 ds)) xs = dotW zs (valsW xs ds) := by
  refine snoc_ind (p := fun ds => (∀ (k : Nat) (d : Wd), ds[k]? = some d → d.a < xs.length + k ∧ d.b < xs.length + k ∧ 0 ≤ d.s ∧ 0 ≤ d.t) → ∀ zs : List Int, xs.length + ds.length ≤ zs.length → dotW (zF zs (arrF xs.length 0 ds)) xs = dotW zs (valsW xs ds)) (fun _ zs _ => rfl) (fun e d ih hE zs hz => ?_) ds
  obtain ⟨da, db, ds0, dt0⟩ := hE e.length d (by rw [List.getElem?_append_right (Nat.le_refl _), Nat.sub_self]; rfl)
  rw [List.length_append, List.length_singleton] at hz
  have ea : arrF xs.length 0 (e ++ [d]) = arrF xs.length 0 e ++ [⟨d.a, xs.length + e.length, d.s, 1⟩, ⟨d.b, xs.length + e.length, d.t, sgW d.w⟩] := by
    rw [arrF_app, Nat.zero_add]; rfl
  rw [ea, show arrF xs.length 0 e ++ [(⟨d.a, xs.length + e.length, d.s, 1⟩ : Ar), ⟨d.b, xs.length + e.length, d.t, sgW d.w⟩] = (arrF xs.length 0 e ++ [⟨d.a, xs.length + e.length, d.s, 1⟩]) ++ [⟨d.b, xs.length + e.length, d.t, sgW d.w⟩] by simp, zF_snoc, zF_snoc,
    ih (fun k x h => hE k x (by rw [List.getElem?_append_left (List.getElem?_eq_some_iff.mp h).1]; exact h)) _ (by rw [zT_len, zT_len]; omega)]
  have vl := valsW_len xs e
  rw [valsW_snoc, dot_snocR _ _ _ (by rw [vl]; omega), vl]
  have l1 : (zT zs ⟨d.b, xs.length + e.length, d.t, sgW d.w⟩).getD (xs.length + e.length) 0 = zs.getD (xs.length + e.length) 0 := getD_set_ne (by show d.b ≠ _; omega)
  show dotW ((zT zs ⟨d.b, xs.length + e.length, d.t, sgW d.w⟩).set d.a ((zT zs ⟨d.b, xs.length + e.length, d.t, sgW d.w⟩).getD d.a 0 + 1 * mvI d.s ((zT zs ⟨d.b, xs.length + e.length, d.t, sgW d.w⟩).getD (xs.length + e.length) 0))) (valsW xs e) = _
  rw [dot_set _ _ _ _ (by rw [zT_len]; omega), l1]
  show dotW (zs.set d.b (zs.getD d.b 0 + sgW d.w * mvI d.t (zs.getD (xs.length + e.length) 0))) (valsW xs e) + _ = _
  rw [dot_set _ _ _ _ (by omega)]
  unfold valD
  generalize zs.getD (xs.length + e.length) 0 = z
  rw [Int.one_mul, mv_mul ds0, Int.mul_add, Int.mul_assoc (sgW d.w), mv_mul dt0, Int.mul_left_comm z (sgW d.w)]
  omega
theorem zF_outs {V : List Int} (gs : List Go) : (∀ g ∈ gs, g.th < V.length ∧ 0 ≤ g.sh) → ∀ zs : List Int, V.length + gs.length ≤ zs.length → dotW (zF zs (oarr V.length 0 gs)) V = dotW zs V + dotW (zs.drop V.length) (gs.map (outV V)) := by
  refine snoc_ind (p := fun gs => (∀ g ∈ gs, g.th < V.length ∧ 0 ≤ g.sh) → ∀ zs : List Int, V.length + gs.length ≤ zs.length → dotW (zF zs (oarr V.length 0 gs)) V = dotW zs V + dotW (zs.drop V.length) (gs.map (outV V))) (fun _ zs _ => ?_) (fun e g ih hE zs hz => ?_) gs
  · show dotW zs V = dotW zs V + dotW (zs.drop V.length) []
    rw [dotW_comm _ [], dotW_nil, Int.add_zero]
  · obtain ⟨h1, h2⟩ := hE g (List.mem_append_right _ (List.mem_singleton.mpr rfl))
    rw [List.length_append, List.length_singleton] at hz
    have ih' := ih fun x hx => hE x (List.mem_append_left _ hx)
    have el : (e.map (outV V)).length = e.length := List.length_map _
    have eo : oarr V.length 0 (e ++ [g]) = oarr V.length 0 e ++ (if g.sg = 0 then [] else [⟨g.th, V.length + e.length, g.sh, g.sg⟩]) := by
      rw [oarr_app, Nat.zero_add]
      show _ ++ ((if g.sg = 0 then [] else [_]) ++ []) = _
      rw [List.append_nil]
    have gz : (zs.drop V.length).getD e.length 0 = zs.getD (V.length + e.length) 0 := by
      rw [List.getD_eq_getElem?_getD, List.getD_eq_getElem?_getD, List.getElem?_drop]
    rw [eo, List.map_append, List.map_singleton, dot_snocR _ _ _ (by rw [el, List.length_drop]; omega), el, gz]
    by_cases z : g.sg = 0
    · rw [if_pos z, List.append_nil, ih' zs (by omega)]
      have : outV V g = 0 := by unfold outV; rw [z, Int.zero_mul]
      rw [this, Int.mul_zero, Int.add_zero]
    · rw [if_neg z, zF_snoc, ih' _ (by rw [zT_len]; omega)]
      have d1 : (zT zs ⟨g.th, V.length + e.length, g.sh, g.sg⟩).drop V.length = zs.drop V.length := by
        unfold zT
        refine List.ext_getElem? fun j => ?_
        rw [List.getElem?_drop, List.getElem?_drop, List.getElem?_set_ne (by show g.th ≠ _; omega)]
      rw [d1]
      show dotW (zs.set g.th (zs.getD g.th 0 + g.sg * mvI g.sh (zs.getD (V.length + e.length) 0))) V + _ = _
      rw [dot_set _ _ _ _ (by omega)]
      unfold outV
      generalize zs.getD (V.length + e.length) 0 = y
      rw [Int.mul_assoc, mv_mul h2, Int.mul_left_comm y g.sg]
      omega
theorem dot_zeros (n : Nat) (ys V : List Int) (h : V.length ≤ n) : dotW (List.replicate n 0 ++ ys) V = 0 := by
  induction n generalizing V with
  | zero =>
    have : V = [] := List.eq_nil_of_length_eq_zero (by omega)
    rw [this, dotW_comm, dotW_nil]
  | succ n ih =>
    cases V with
    | nil => rw [dotW_comm, dotW_nil]
    | cons v V =>
      show (0 : Int) * v + dotW (List.replicate n 0 ++ ys) V = 0
      rw [ih V (by simpa using h), Int.zero_mul]; rfl
def zs0 (n : Nat) (ys : List Int) : List Int := List.replicate n 0 ++ ys
theorem turn_adj {xs ys : List Int} {ds : List Wd} {gs : List Go} (hd : ∀ (k : Nat) (d : Wd), ds[k]? = some d → d.a < xs.length + k ∧ d.b < xs.length + k ∧ 0 ≤ d.s ∧ 0 ≤ d.t) (hg : ∀ g ∈ gs, g.th < xs.length + ds.length ∧ 0 ≤ g.sh) (hy : ys.length = gs.length) :
    dotW (zF (zs0 (xs.length + ds.length) ys) (allA xs.length ds gs)) xs = dotW ys (gs.map (outV (valsW xs ds))) := by
  have zl : (zs0 (xs.length + ds.length) ys).length = xs.length + ds.length + gs.length := by unfold zs0; rw [List.length_append, List.length_replicate, hy]
  have vl := valsW_len xs ds
  unfold allA
  rw [zF_app, zF_deeds ds hd _ (by rw [zF_len, zl]; omega), ← vl, zF_outs gs (by rw [vl]; exact hg) _ (by rw [vl, zl]; exact Nat.le_refl _)]
  unfold zs0
  rw [dot_zeros _ _ _ (Nat.le_refl _), Int.zero_add]
  congr 1
  rw [List.drop_append_of_le_length (by rw [List.length_replicate]; exact Nat.le_refl _)]
  simp
theorem dot_unitR {zs : List Int} {n i : Nat} (hi : i < n) (hn : n ≤ zs.length) : dotW zs (unitRow n i) = zs.getD i 0 := by
  have e : ∀ (m : Nat) (zs : List Int), m ≤ zs.length → dotW zs (unitRow m i) = dotW (zs.take m) (unitRow m i) := fun m => by
    have g : ∀ (V zs : List Int), dotW zs V = dotW (zs.take V.length) V := fun V => by
      induction V with
      | nil => intro zs; rw [dotW_comm, dotW_nil, dotW_comm, dotW_nil]
      | cons v V ih =>
        intro zs
        cases zs with
        | nil => simp
        | cons z zs =>
          show z * v + dotW zs V = z * v + dotW (zs.take V.length) V
          rw [← ih zs]
    intro zs _
    have := g (unitRow m i) zs
    rwa [unitRow_len] at this
  rw [e n zs hn, dotW_comm]
  have tl : (zs.take n).length = n := by rw [List.length_take]; omega
  have := dot_unit (xs := zs.take n) (i := i) (by omega)
  rw [tl] at this
  rw [this, List.getD_eq_getElem?_getD, List.getD_eq_getElem?_getD, List.getElem?_take, if_pos hi]
def turnT (m : Nat) (a : List Wd × List Go) (r : Ar) : List Wd × List Go :=
  let p := a.2.getD r.st g0
  let q := movG (a.2.getD r.go g0) r.sh r.sg
  (addG m a.1 p q, a.2.set r.st (addP m a.1 p q))
def turnF (m : Nat) (a : List Wd × List Go) (as : List Ar) : List Wd × List Go := as.reverse.foldl (turnT m) a
theorem turnF_snoc (m : Nat) (a : List Wd × List Go) (as : List Ar) (r : Ar) : turnF m a (as ++ [r]) = turnF m (turnT m a r) as := by unfold turnF; rw [List.reverse_append]; rfl
structure TrV (ys : List Int) (D : List Wd) (st : List Go) : Prop where
  ex : ExD ys D
  pt : ∀ (k : Nat) (p : Go), st[k]? = some p → PtOkV (ys.length + D.length) (valsW ys D) p ∧ 0 ≤ p.sh
theorem Ex.up {s v : Int} (h : 0 ≤ s) : Ex s v := fun z => absurd z (by omega)
theorem mov_up {p : Go} {s g : Int} (h : 0 ≤ p.sh) (hs : 0 ≤ s) : 0 ≤ (movG p s g).sh := by
  unfold movG
  split
  · exact Int.le_refl 0
  · show 0 ≤ p.sh + s
    omega
theorem trv_step {ys : List Int} {D : List Wd} {st : List Go} {r : Ar} (h : TrV ys D st) (hy : 0 < ys.length) (h1 : r.st < st.length) (h2 : r.go < st.length) (h3 : 0 ≤ r.sh) (h4 : r.sg = 1 ∨ r.sg = -1) :
    TrV ys (turnT ys.length (D, st) r).1 (turnT ys.length (D, st) r).2 ∧ (turnT ys.length (D, st) r).2.map (outV (valsW ys (turnT ys.length (D, st) r).1)) = zT (st.map (outV (valsW ys D))) r := by
  have ea := List.getElem?_eq_getElem h1
  have eb := List.getElem?_eq_getElem h2
  obtain ⟨pa, pas⟩ := h.pt _ _ ea
  obtain ⟨pb, pbs⟩ := h.pt _ _ eb
  have ga : st.getD r.st g0 = st[r.st] := getD_of ea
  have gb : st.getD r.go g0 = st[r.go] := getD_of eb
  obtain ⟨q1, q2⟩ := mov_val (s := r.sh) (g := r.sg) pb (by omega) h4 (Ex.up h3)
  have q3 : 0 ≤ (movG st[r.go] r.sh r.sg).sh := mov_up pbs h3
  have va : (st.map (outV (valsW ys D))).getD r.st 0 = outV (valsW ys D) st[r.st] := getD_of (by rw [List.getElem?_map, ea]; rfl)
  have vb : (st.map (outV (valsW ys D))).getD r.go 0 = outV (valsW ys D) st[r.go] := getD_of (by rw [List.getElem?_map, eb]; rfl)
  unfold turnT zT
  dsimp only
  rw [ga, gb, va, vb, ← q2]
  generalize st[r.st] = p at pa pas
  generalize movG st[r.go] r.sh r.sg = q at q1 q3
  clear ga gb va vb q2 pb pbs ea eb
  have mem : ∀ (x : Go) (k : Nat) (y : Go), (st.set r.st x)[k]? = some y → (k = r.st ∧ y = x) ∨ st[k]? = some y := fun x k y hk => by
    by_cases z : r.st = k
    · subst z
      rw [List.getElem?_set_self h1] at hk
      exact .inl ⟨rfl, (Option.some.inj hk).symm⟩
    · rw [List.getElem?_set_ne z] at hk
      exact .inr hk
  have keep : ∀ x : Go, PtOkV (ys.length + D.length) (valsW ys D) x → 0 ≤ x.sh → outV (valsW ys D) x = outV (valsW ys D) p + outV (valsW ys D) q → TrV ys D (st.set r.st x) ∧ (st.set r.st x).map (outV (valsW ys D)) = (st.map (outV (valsW ys D))).set r.st (outV (valsW ys D) p + outV (valsW ys D) q) := fun x px xs vx => by
    refine ⟨⟨h.ex, fun k y hk => ?_⟩, by rw [List.map_set, vx]⟩
    rcases mem x k y hk with ⟨_, z⟩ | z
    · rw [z]; exact ⟨px, xs⟩
    · exact h.pt k y z
  rcases pa.sg.cases with ⟨z, z0⟩ | zp
  · unfold addG addP
    rw [if_pos z, if_pos z]
    refine keep q q1 q3 ?_
    have : outV (valsW ys D) p = 0 := by unfold outV; rw [z, Int.zero_mul]
    rw [this, Int.zero_add]
  have np : p.sg ≠ 0 := by omega
  rcases q1.sg.cases with ⟨z, z0⟩ | zq
  · unfold addG addP
    rw [if_neg np, if_neg np, if_pos z, if_pos z]
    refine keep p pa pas ?_
    have : outV (valsW ys D) q = 0 := by unfold outV; rw [z, Int.zero_mul]
    rw [this, Int.add_zero]
  have nq : q.sg ≠ 0 := by omega
  unfold addG addP
  rw [if_neg np, if_neg np, if_neg nq, if_neg nq]
  have dv := deedG_val (vs := valsW ys D) zp zq
  have sgn : signG p q = 1 ∨ signG p q = -1 := by unfold signG; split <;> omega
  have vD : valsW ys (D ++ [deedG p q]) = valsW ys D ++ [valD (valsW ys D) (deedG p q)] := valsW_snoc _ _ _
  have last : (valsW ys (D ++ [deedG p q])).getD (ys.length + D.length) 0 = valD (valsW ys D) (deedG p q) := by
    rw [vD]
    refine getD_of ?_
    rw [List.getElem?_append_right (by rw [valsW_len]; exact Nat.le_refl _), valsW_len, Nat.sub_self]
    rfl
  have vnew : outV (valsW ys (D ++ [deedG p q])) ⟨ys.length + D.length, 0, signG p q⟩ = outV (valsW ys D) p + outV (valsW ys D) q := by
    unfold outV
    show signG p q * mvI 0 ((valsW ys (D ++ [deedG p q])).getD (ys.length + D.length) 0) = _
    rw [last, mvI_zero, dv]
    rfl
  have hdd : ExD ys (D ++ [deedG p q]) := by
    unfold deedG
    split
    · exact h.ex.snoc pa.th q1.th (.inl rfl) pa.ex q1.ex
    · split
      · exact h.ex.snoc pa.th q1.th (.inr rfl) pa.ex q1.ex
      · exact h.ex.snoc q1.th pa.th (.inr rfl) q1.ex pa.ex
  refine ⟨⟨hdd, fun k y hk => ?_⟩, ?_⟩
  · rcases mem _ k y hk with ⟨_, z⟩ | z
    · rw [z]
      exact ⟨⟨by rw [List.length_append]; simp, .inr sgn, Ex.up (Int.le_refl 0)⟩, Int.le_refl 0⟩
    · obtain ⟨c1, c2⟩ := h.pt k y z
      exact ⟨c1.more.1, c2⟩
  · rw [List.map_set, vnew]
    congr 1
    refine List.map_congr_left fun y hy => ?_
    obtain ⟨k, hk⟩ := List.getElem?_of_mem hy
    exact (h.pt k y hk).1.more.2
theorem turn_val {ys : List Int} (hy : 0 < ys.length) (as : List Ar) : ∀ (D : List Wd) (st : List Go), (∀ r ∈ as, r.st < st.length ∧ r.go < st.length ∧ 0 ≤ r.sh ∧ (r.sg = 1 ∨ r.sg = -1)) → TrV ys D st →
    TrV ys (turnF ys.length (D, st) as).1 (turnF ys.length (D, st) as).2 ∧ (turnF ys.length (D, st) as).2.map (outV (valsW ys (turnF ys.length (D, st) as).1)) = zF (st.map (outV (valsW ys D))) as := by
  refine snoc_ind (p := fun as => ∀ (D : List Wd) (st : List Go), (∀ r ∈ as, r.st < st.length ∧ r.go < st.length ∧ 0 ≤ r.sh ∧ (r.sg = 1 ∨ r.sg = -1)) → TrV ys D st →
    TrV ys (turnF ys.length (D, st) as).1 (turnF ys.length (D, st) as).2 ∧ (turnF ys.length (D, st) as).2.map (outV (valsW ys (turnF ys.length (D, st) as).1)) = zF (st.map (outV (valsW ys D))) as) (fun D st _ h => ⟨h, rfl⟩) (fun e r ih D st hr h => ?_) as
  obtain ⟨h1, h2, h3, h4⟩ := hr r (List.mem_append_right _ (List.mem_singleton.mpr rfl))
  obtain ⟨s1, s2⟩ := trv_step h hy h1 h2 h3 h4
  rw [turnF_snoc, zF_snoc, ← s2]
  refine ih _ _ (fun x hx => ?_) s1
  have := hr x (List.mem_append_left _ hx)
  rw [List.length_set]
  exact this
end L2
set_option Elab.async false
set_option linter.all false
set_option maxRecDepth 100000
set_option maxHeartbeats 1000000
namespace L2
open PySem PySem.Spec PyProof.Rows
structure Pot (ins : Nat) (ds : List Wd) (gs : List Go) (μ : List Int) (B : Int) : Prop where
  len : μ.length = ins + ds.length
  nn : ∀ k, 0 ≤ μ.getD k 0 ∧ μ.getD k 0 ≤ B
  dk : ∀ (k : Nat) (d : Wd), ds[k]? = some d → 0 ≤ d.s ∧ 0 ≤ d.t ∧ μ.getD d.a 0 + d.s ≤ μ.getD (ins + k) 0 ∧ μ.getD d.b 0 + d.t ≤ μ.getD (ins + k) 0
  gk : ∀ g ∈ gs, 0 ≤ g.sh ∧ (g.sg ≠ 0 → μ.getD g.th 0 + g.sh ≤ B)
structure TrP (m : Nat) (κ : List Int) (B : Int) (D : List Wd) (st : List Go) (μ : List Int) : Prop where
  len : μ.length = m + D.length
  nn : ∀ k, 0 ≤ μ.getD k 0 ∧ μ.getD k 0 ≤ B
  dk : ∀ (k : Nat) (d : Wd), D[k]? = some d → 0 ≤ d.s ∧ 0 ≤ d.t ∧ μ.getD d.a 0 + d.s ≤ μ.getD (m + k) 0 ∧ μ.getD d.b 0 + d.t ≤ μ.getD (m + k) 0
  da : ∀ (k : Nat) (d : Wd), D[k]? = some d → d.a < m + k ∧ d.b < m + k
  pt : ∀ (k : Nat) (p : Go), st[k]? = some p → p.th < m + D.length ∧ SgOk p ∧ 0 ≤ p.sh ∧ (p.sg ≠ 0 → μ.getD p.th 0 + p.sh ≤ B - κ.getD k 0)
theorem getD_snoc_lt {μ : List Int} {v : Int} {k : Nat} (h : k < μ.length) : (μ ++ [v]).getD k 0 = μ.getD k 0 := by
  rw [List.getD_eq_getElem?_getD, List.getD_eq_getElem?_getD, List.getElem?_append_left h]
theorem getD_snoc_eq {μ : List Int} {v : Int} {k : Nat} (h : k = μ.length) : (μ ++ [v]).getD k 0 = v := by
  rw [List.getD_eq_getElem?_getD, List.getElem?_append_right (by omega), h, Nat.sub_self]
  rfl
theorem mov_sg {p : Go} {s g : Int} (h : SgOk p) (hg : g = 1 ∨ g = -1) : SgOk (movG p s g) := by
  rcases h.cases with ⟨z, z0⟩ | z
  · unfold movG; rw [if_pos (by rw [z, Int.zero_mul])]; exact .inl rfl
  · unfold movG
    rw [if_neg (by rcases z with z | z <;> rcases hg with y | y <;> rw [z, y] <;> decide)]
    refine .inr ?_
    show p.sg * g = 1 ∨ p.sg * g = -1
    rcases z with z | z <;> rcases hg with y | y <;> rw [z, y] <;> decide
theorem mov_nz {p : Go} {s g : Int} (hg : g = 1 ∨ g = -1) : (movG p s g).sg ≠ 0 ↔ p.sg ≠ 0 := by
  unfold movG
  by_cases z : p.sg * g = 0
  · rw [if_pos z]
    refine ⟨fun h => absurd rfl h, fun h => ?_⟩
    rcases hg with y | y <;> rw [y] at z <;> omega
  · rw [if_neg z]
    refine ⟨fun _ y => z (by rw [y, Int.zero_mul]), fun _ => z⟩
theorem trp_step {m : Nat} {κ : List Int} {B : Int} {D : List Wd} {st : List Go} {μ : List Int} {r : Ar} (h : TrP m κ B D st μ) (hk : ∀ k, 0 ≤ κ.getD k 0) (hm : 0 < m) (h1 : r.st < st.length) (h2 : r.go < st.length) (h3 : 0 ≤ r.sh) (h4 : r.sg = 1 ∨ r.sg = -1) (h5 : κ.getD r.st 0 + r.sh ≤ κ.getD r.go 0) :
    ∃ μ', TrP m κ B (turnT m (D, st) r).1 (turnT m (D, st) r).2 μ' := by
  have ea := List.getElem?_eq_getElem h1
  have eb := List.getElem?_eq_getElem h2
  obtain ⟨a1, a2, a3, a4⟩ := h.pt _ _ ea
  obtain ⟨b1, b2, b3, b4⟩ := h.pt _ _ eb
  have ga : st.getD r.st g0 = st[r.st] := getD_of ea
  have gb : st.getD r.go g0 = st[r.go] := getD_of eb
  have q1 : (movG st[r.go] r.sh r.sg).th < m + D.length := by
    unfold movG
    split
    · show 0 < _; omega
    · exact b1
  have q2 := mov_sg (s := r.sh) b2 h4
  have q3 : 0 ≤ (movG st[r.go] r.sh r.sg).sh := mov_up b3 h3
  have q4 : (movG st[r.go] r.sh r.sg).sg ≠ 0 → μ.getD (movG st[r.go] r.sh r.sg).th 0 + (movG st[r.go] r.sh r.sg).sh ≤ B - κ.getD r.st 0 := fun nz => by
    have := b4 ((mov_nz h4).mp nz)
    unfold movG at nz ⊢
    split
    · rename_i z; rw [if_pos z] at nz; exact absurd rfl nz
    · show μ.getD st[r.go].th 0 + (st[r.go].sh + r.sh) ≤ _
      omega
  unfold turnT
  dsimp only
  rw [ga, gb]
  generalize st[r.st] = p at a1 a2 a3 a4
  generalize movG st[r.go] r.sh r.sg = q at q1 q2 q3 q4
  clear ga gb ea eb b1 b2 b3 b4
  have mem : ∀ (x : Go) (k : Nat) (y : Go), (st.set r.st x)[k]? = some y → (k = r.st ∧ y = x) ∨ st[k]? = some y := fun x k y hk => by
    by_cases z : r.st = k
    · subst z
      rw [List.getElem?_set_self h1] at hk
      exact .inl ⟨rfl, (Option.some.inj hk).symm⟩
    · rw [List.getElem?_set_ne z] at hk
      exact .inr hk
  have keep : ∀ x : Go, x.th < m + D.length → SgOk x → 0 ≤ x.sh → (x.sg ≠ 0 → μ.getD x.th 0 + x.sh ≤ B - κ.getD r.st 0) → ∃ μ', TrP m κ B D (st.set r.st x) μ' := fun x c1 c2 c3 c4 => by
    refine ⟨μ, h.len, h.nn, h.dk, h.da, fun k y hk' => ?_⟩
    rcases mem x k y hk' with ⟨z1, z⟩ | z
    · rw [z, z1]; exact ⟨c1, c2, c3, c4⟩
    · exact h.pt k y z
  rcases a2.cases with ⟨z, z0⟩ | zp
  · unfold addG addP
    rw [if_pos z, if_pos z]
    exact keep q q1 q2 q3 q4
  have np : p.sg ≠ 0 := by omega
  rcases q2.cases with ⟨z, z0⟩ | zq
  · unfold addG addP
    rw [if_neg np, if_neg np, if_pos z, if_pos z]
    exact keep p a1 a2 a3 a4
  have nq : q.sg ≠ 0 := by omega
  unfold addG addP
  rw [if_neg np, if_neg np, if_neg nq, if_neg nq]
  have sgn : signG p q = 1 ∨ signG p q = -1 := by unfold signG; split <;> omega
  have ap := a4 np
  have aq := q4 nq
  have n1 := h.nn p.th
  have ks := hk r.st
  have lm := h.len
  refine ⟨μ ++ [B - κ.getD r.st 0], by rw [List.length_append, List.length_append, lm]; rfl, fun k => ?_, fun k d hd => ?_, fun k d hd => ?_, fun k y hy => ?_⟩
  · by_cases z : k < μ.length
    · rw [getD_snoc_lt z]; exact h.nn k
    · by_cases z1 : k = μ.length
      · rw [getD_snoc_eq z1]; omega
      · rw [List.getD_eq_getElem?_getD, List.getElem?_eq_none (by rw [List.length_append]; simp; omega)]
        show 0 ≤ (0 : Int) ∧ (0 : Int) ≤ B
        omega
  · rcases get_snoc hd with ⟨kl, z⟩ | ⟨kl, rfl⟩
    · obtain ⟨c1, c2⟩ := h.da k d z
      rw [getD_snoc_lt (by omega), getD_snoc_lt (by omega), getD_snoc_lt (by omega)]
      exact h.dk k d z
    · rw [getD_snoc_eq (k := m + k) (by omega)]
      unfold deedG
      split
      · show 0 ≤ p.sh ∧ 0 ≤ q.sh ∧ (μ ++ [_]).getD p.th 0 + p.sh ≤ _ ∧ (μ ++ [_]).getD q.th 0 + q.sh ≤ _
        rw [getD_snoc_lt (by omega), getD_snoc_lt (by omega)]
        exact ⟨a3, q3, ap, aq⟩
      · split
        · show 0 ≤ p.sh ∧ 0 ≤ q.sh ∧ (μ ++ [_]).getD p.th 0 + p.sh ≤ _ ∧ (μ ++ [_]).getD q.th 0 + q.sh ≤ _
          rw [getD_snoc_lt (by omega), getD_snoc_lt (by omega)]
          exact ⟨a3, q3, ap, aq⟩
        · show 0 ≤ q.sh ∧ 0 ≤ p.sh ∧ (μ ++ [_]).getD q.th 0 + q.sh ≤ _ ∧ (μ ++ [_]).getD p.th 0 + p.sh ≤ _
          rw [getD_snoc_lt (by omega), getD_snoc_lt (by omega)]
          exact ⟨q3, a3, aq, ap⟩
  · rcases get_snoc hd with ⟨kl, z⟩ | ⟨kl, rfl⟩
    · exact h.da k d z
    · rw [kl]
      unfold deedG
      split
      · exact ⟨a1, q1⟩
      · split
        · exact ⟨a1, q1⟩
        · exact ⟨q1, a1⟩
  · rcases mem _ k y hy with ⟨z1, z⟩ | z
    · rw [z, z1]
      refine ⟨by show m + D.length < _; rw [List.length_append]; simp, .inr sgn, Int.le_refl 0, fun _ => ?_⟩
      show (μ ++ [_]).getD (m + D.length) 0 + 0 ≤ _
      rw [getD_snoc_eq (by omega)]
      omega
    · obtain ⟨c1, c2, c3, c4⟩ := h.pt k y z
      refine ⟨by rw [List.length_append]; simp; omega, c2, c3, fun nz => ?_⟩
      rw [getD_snoc_lt (by omega)]
      exact c4 nz
theorem turn_pot {m : Nat} {κ : List Int} {B : Int} (hk : ∀ k, 0 ≤ κ.getD k 0) (hm : 0 < m) (as : List Ar) : ∀ (D : List Wd) (st : List Go) (μ : List Int), (∀ r ∈ as, r.st < st.length ∧ r.go < st.length ∧ 0 ≤ r.sh ∧ (r.sg = 1 ∨ r.sg = -1) ∧ κ.getD r.st 0 + r.sh ≤ κ.getD r.go 0) → TrP m κ B D st μ →
    ∃ μ', TrP m κ B (turnF m (D, st) as).1 (turnF m (D, st) as).2 μ' := by
  refine snoc_ind (p := fun as => ∀ (D : List Wd) (st : List Go) (μ : List Int), (∀ r ∈ as, r.st < st.length ∧ r.go < st.length ∧ 0 ≤ r.sh ∧ (r.sg = 1 ∨ r.sg = -1) ∧ κ.getD r.st 0 + r.sh ≤ κ.getD r.go 0) → TrP m κ B D st μ →
    ∃ μ', TrP m κ B (turnF m (D, st) as).1 (turnF m (D, st) as).2 μ') (fun D st μ _ h => ⟨μ, h⟩) (fun e r ih D st μ hr h => ?_) as
  obtain ⟨h1, h2, h3, h4, h5⟩ := hr r (List.mem_append_right _ (List.mem_singleton.mpr rfl))
  obtain ⟨μ', s1⟩ := trp_step h hk hm h1 h2 h3 h4 h5
  rw [turnF_snoc]
  refine ih _ _ _ (fun x hx => ?_) s1
  have := hr x (List.mem_append_left _ hx)
  rw [List.length_set]
  exact this
def bT (bs : List Bool) (r : Ar) : List Bool := bs.set r.st (bs.getD r.st false || bs.getD r.go false)
def bF (bs : List Bool) (as : List Ar) : List Bool := as.reverse.foldl bT bs
theorem bF_snoc (bs : List Bool) (as : List Ar) (a : Ar) : bF bs (as ++ [a]) = bF (bT bs a) as := by unfold bF; rw [List.reverse_append]; rfl
theorem bF_app (bs : List Bool) (as bs' : List Ar) : bF bs (as ++ bs') = bF (bF bs bs') as := by unfold bF; rw [List.reverse_append, List.foldl_append]
theorem bT_len (bs : List Bool) (a : Ar) : (bT bs a).length = bs.length := by unfold bT; rw [List.length_set]
theorem bF_len (as : List Ar) : ∀ bs : List Bool, (bF bs as).length = bs.length := by
  refine snoc_ind (p := fun as => ∀ bs : List Bool, (bF bs as).length = bs.length) (fun _ => rfl) (fun e a ih bs => ?_) as
  rw [bF_snoc, ih, bT_len]
def nzB (p : Go) : Bool := decide (p.sg ≠ 0)
def cnt (bs : List Bool) : Nat := bs.count true
def eff : List Bool → List Ar → Nat
  | _, [] => 0
  | bs, r :: as => (if bs.getD r.go false = true then 1 else 0) + eff (bT bs r) as
theorem cnt_set : ∀ (bs : List Bool) (i : Nat) (b : Bool), i < bs.length → cnt (bs.set i (bs.getD i false || b)) = cnt bs + (if bs.getD i false = false ∧ b = true then 1 else 0)
  | [], i, b, h => by simp at h
  | c :: bs, 0, b, h => by
    unfold cnt
    cases c <;> cases b <;> simp
  | c :: bs, i + 1, b, h => by
    have ih := cnt_set bs i b (by simpa using h)
    unfold cnt at ih ⊢
    show ((c :: bs.set i (bs.getD i false || b)).count true) = (c :: bs).count true + (if bs.getD i false = false ∧ b = true then 1 else 0)
    rw [List.count_cons, List.count_cons, ih]
    omega
theorem getD_set_neB {zs : List Bool} {i j : Nat} {v : Bool} (h : i ≠ j) : (zs.set i v).getD j false = zs.getD j false := by
  rw [List.getD_eq_getElem?_getD, List.getD_eq_getElem?_getD, List.getElem?_set_ne h]
theorem nzB_add {m : Nat} {D : List Wd} {p q : Go} (hp : SgOk p) (hq : SgOk q) : nzB (addP m D p q) = (nzB p || nzB q) ∧ (addG m D p q).length = D.length + (if nzB p = true ∧ nzB q = true then 1 else 0) ∧ SgOk (addP m D p q) := by
  unfold addP addG nzB
  rcases hp.cases with ⟨z, _⟩ | zp
  · rw [if_pos z, if_pos z, z]
    simp
    exact hq
  have np : p.sg ≠ 0 := by omega
  rw [if_neg np, if_neg np]
  rcases hq.cases with ⟨z, _⟩ | zq
  · rw [if_pos z, if_pos z, z]
    simp [np]
    exact hp
  have nq : q.sg ≠ 0 := by omega
  rw [if_neg nq, if_neg nq]
  have sgn : signG p q = 1 ∨ signG p q = -1 := by unfold signG; split <;> omega
  have ns : signG p q ≠ 0 := by omega
  simp [np, nq, ns]
  exact .inr sgn
theorem turn_cnt {m : Nat} (as : List Ar) : ∀ (D : List Wd) (st : List Go), (∀ r ∈ as, r.st < st.length ∧ r.go < st.length ∧ (r.sg = 1 ∨ r.sg = -1)) → (∀ p ∈ st, SgOk p) →
    (turnF m (D, st) as).2.map nzB = bF (st.map nzB) as ∧ (turnF m (D, st) as).1.length + cnt (bF (st.map nzB) as) = D.length + cnt (st.map nzB) + eff (st.map nzB) as.reverse := by
  refine snoc_ind (p := fun as => ∀ (D : List Wd) (st : List Go), (∀ r ∈ as, r.st < st.length ∧ r.go < st.length ∧ (r.sg = 1 ∨ r.sg = -1)) → (∀ p ∈ st, SgOk p) →
    (turnF m (D, st) as).2.map nzB = bF (st.map nzB) as ∧ (turnF m (D, st) as).1.length + cnt (bF (st.map nzB) as) = D.length + cnt (st.map nzB) + eff (st.map nzB) as.reverse) (fun D st _ _ => ⟨rfl, rfl⟩) (fun e r ih D st hr hs => ?_) as
  obtain ⟨h1, h2, h4⟩ := hr r (List.mem_append_right _ (List.mem_singleton.mpr rfl))
  have ea := List.getElem?_eq_getElem h1
  have eb := List.getElem?_eq_getElem h2
  have sa := hs _ (List.mem_of_getElem? ea)
  have sb := hs _ (List.mem_of_getElem? eb)
  have ga : st.getD r.st g0 = st[r.st] := getD_of ea
  have gb : st.getD r.go g0 = st[r.go] := getD_of eb
  have va : (st.map nzB).getD r.st false = nzB st[r.st] := getD_of (by rw [List.getElem?_map, ea]; rfl)
  have vb : (st.map nzB).getD r.go false = nzB st[r.go] := getD_of (by rw [List.getElem?_map, eb]; rfl)
  have mq : nzB (movG st[r.go] r.sh r.sg) = nzB st[r.go] := by
    unfold nzB
    exact decide_eq_decide.mpr (mov_nz h4)
  obtain ⟨n1, n2, n3⟩ := nzB_add (m := m) (D := D) sa (mov_sg (s := r.sh) sb h4)
  rw [mq] at n1 n2
  have st1 : (turnT m (D, st) r).2.map nzB = bT (st.map nzB) r := by
    unfold turnT bT
    dsimp only
    rw [ga, gb, va, vb, List.map_set, n1]
  have st2 : (turnT m (D, st) r).1.length = D.length + (if nzB st[r.st] = true ∧ nzB st[r.go] = true then 1 else 0) := by
    unfold turnT
    dsimp only
    rw [ga, gb, n2]
  obtain ⟨i1, i2⟩ := ih (turnT m (D, st) r).1 (turnT m (D, st) r).2 (fun x hx => by
    have := hr x (List.mem_append_left _ hx)
    unfold turnT
    dsimp only
    rw [List.length_set]
    exact this) (fun p hp => by
    unfold turnT at hp
    dsimp only at hp
    rw [ga, gb] at hp
    rcases List.mem_or_eq_of_mem_set hp with z | z
    · exact hs p z
    · rw [z]; exact n3)
  rw [turnF_snoc, bF_snoc, ← st1]
  refine ⟨i1, ?_⟩
  have cs : cnt (bT (st.map nzB) r) = cnt (st.map nzB) + (if nzB st[r.st] = false ∧ nzB st[r.go] = true then 1 else 0) := by
    unfold bT
    rw [cnt_set _ _ _ (by rw [List.length_map]; exact h1), va, vb]
  rw [st2, st1, cs] at i2
  change (turnF m (turnT m (D, st) r) e).1.length + _ = _ at i2
  rw [show (e ++ [r]).reverse = r :: e.reverse by simp]
  show _ = _ + ((if (st.map nzB).getD r.go false = true then 1 else 0) + eff (bT (st.map nzB) r) e.reverse)
  rw [vb]
  rw [st1]
  cases x : nzB st[r.st] <;> cases y : nzB st[r.go] <;> simp [x, y] at i2 ⊢ <;> omega
theorem eff_app : ∀ (xs ys : List Ar) (bs : List Bool), eff bs (xs ++ ys) = eff bs xs + eff (xs.foldl bT bs) ys
  | [], ys, bs => by simp [eff]
  | r :: xs, ys, bs => by
    show _ + eff (bT bs r) (xs ++ ys) = _
    rw [eff_app xs ys (bT bs r)]
    show _ = (_ + eff (bT bs r) xs) + eff (xs.foldl bT (bT bs r)) ys
    omega
theorem bF_ne (as : List Ar) : ∀ (bs : List Bool) (k : Nat), (∀ r ∈ as, r.st ≠ k) → (bF bs as).getD k false = bs.getD k false := by
  refine snoc_ind (p := fun as => ∀ (bs : List Bool) (k : Nat), (∀ r ∈ as, r.st ≠ k) → (bF bs as).getD k false = bs.getD k false) (fun bs k _ => rfl) (fun e r ih bs k hk => ?_) as
  rw [bF_snoc, ih _ _ (fun x hx => hk x (List.mem_append_left _ hx))]
  exact getD_set_neB (hk r (List.mem_append_right _ (List.mem_singleton.mpr rfl)))
def dcnt (ins k : Nat) (bs : List Bool) : Nat := ((List.range k).map fun j => if bs.getD (ins + j) false = true then 1 else 0).sum
theorem dcnt_succ (ins k : Nat) (bs : List Bool) : dcnt ins (k + 1) bs = dcnt ins k bs + (if bs.getD (ins + k) false = true then 1 else 0) := by
  unfold dcnt
  rw [List.range_succ, List.map_append, List.sum_append]
  simp
theorem eff_deeds {ins : Nat} (ds : List Wd) : (∀ (k : Nat) (d : Wd), ds[k]? = some d → d.a < ins + k ∧ d.b < ins + k) → ∀ bs : List Bool, eff bs (arrF ins 0 ds).reverse = 2 * dcnt ins ds.length (bF bs (arrF ins 0 ds)) := by
  refine snoc_ind (p := fun ds => (∀ (k : Nat) (d : Wd), ds[k]? = some d → d.a < ins + k ∧ d.b < ins + k) → ∀ bs : List Bool, eff bs (arrF ins 0 ds).reverse = 2 * dcnt ins ds.length (bF bs (arrF ins 0 ds))) (fun _ bs => rfl) (fun e d ih hE bs => ?_) ds
  obtain ⟨da, db⟩ := hE e.length d (by rw [List.getElem?_append_right (Nat.le_refl _), Nat.sub_self]; rfl)
  have hE' : ∀ (k : Nat) (d : Wd), e[k]? = some d → d.a < ins + k ∧ d.b < ins + k := fun k x h => hE k x (by rw [List.getElem?_append_left (List.getElem?_eq_some_iff.mp h).1]; exact h)
  have ea : arrF ins 0 (e ++ [d]) = (arrF ins 0 e ++ [⟨d.a, ins + e.length, d.s, 1⟩]) ++ [⟨d.b, ins + e.length, d.t, sgW d.w⟩] := by
    rw [arrF_app, Nat.zero_add]; simp [arrF]
  rw [ea, bF_snoc, bF_snoc, List.reverse_append, List.reverse_append, List.reverse_singleton, List.reverse_singleton]
  have ih' := ih hE' (bT (bT bs ⟨d.b, ins + e.length, d.t, sgW d.w⟩) ⟨d.a, ins + e.length, d.s, 1⟩)
  have stay : ∀ r ∈ arrF ins 0 e, r.st ≠ ins + e.length := fun r hr => by
    obtain ⟨t, ht⟩ := List.getElem?_of_mem hr
    obtain ⟨x, h1, _, h3⟩ := arr_at ht
    have kl := (List.getElem?_eq_some_iff.mp h1).1
    obtain ⟨c1, c2⟩ := hE' _ x h1
    rcases h3 with ⟨_, rfl⟩ | ⟨_, rfl⟩
    · show x.a ≠ _; omega
    · show x.b ≠ _; omega
  have f1 : (bT bs ⟨d.b, ins + e.length, d.t, sgW d.w⟩).getD (ins + e.length) false = bs.getD (ins + e.length) false := getD_set_neB (by show d.b ≠ _; omega)
  have f2 : (bT (bT bs ⟨d.b, ins + e.length, d.t, sgW d.w⟩) ⟨d.a, ins + e.length, d.s, 1⟩).getD (ins + e.length) false = bs.getD (ins + e.length) false := by
    rw [← f1]
    exact getD_set_neB (by show d.a ≠ _; omega)
  show (if bs.getD (ins + e.length) false = true then 1 else 0) + ((if (bT bs ⟨d.b, ins + e.length, d.t, sgW d.w⟩).getD (ins + e.length) false = true then 1 else 0) + eff (bT (bT bs ⟨d.b, ins + e.length, d.t, sgW d.w⟩) ⟨d.a, ins + e.length, d.s, 1⟩) (arrF ins 0 e).reverse) = _
  rw [ih', f1, List.length_append, List.length_singleton, dcnt_succ, bF_ne _ _ _ stay, f2]
  omega
theorem eff_outs {n : Nat} (as : List Ar) : ∀ bs : List Bool, (∀ r ∈ as, r.st < n ∧ n ≤ r.go ∧ bs.getD r.go false = true) → eff bs as = as.length := by
  induction as with
  | nil => intro bs _; rfl
  | cons r as ih =>
    intro bs h
    obtain ⟨h1, h2, h3⟩ := h r (List.mem_cons_self ..)
    show (if bs.getD r.go false = true then 1 else 0) + eff (bT bs r) as = as.length + 1
    rw [if_pos h3, ih (bT bs r) (fun x hx => ?_)]
    · omega
    · obtain ⟨c1, c2, c3⟩ := h x (List.mem_cons_of_mem _ hx)
      refine ⟨c1, c2, ?_⟩
      rw [← c3]
      exact getD_set_neB (by omega)
end L2
set_option Elab.async false
set_option linter.all false
set_option maxRecDepth 100000
set_option maxHeartbeats 1000000
namespace L2
open PySem PySem.Spec PyProof.Rows
structure TW (ins : Nat) (ds : List Wd) (gs : List Go) (μ : List Int) (B : Int) : Prop where
  ok : WebOk ins ds gs
  sg : ∀ g ∈ gs, SgOk g
  pot : Pot ins ds gs μ B
  b : B ≤ 3900
theorem mvI_bd {s n : Int} {b c : Nat} (h0 : 0 ≤ s) (h1 : s.toNat ≤ c) (h : n.natAbs ≤ 2 ^ b) : (mvI s n).natAbs ≤ 2 ^ (b + c) := by
  rw [mvI_up h0, Int.natAbs_mul, Int.natAbs_pow, Nat.pow_add]
  exact Nat.mul_le_mul h (Nat.pow_le_pow_right (by decide) h1)
section
variable {ins : Nat} {ds : List Wd} {gs : List Go} {μ : List Int} {B : Int}
theorem pot_bd (P : Pot ins ds gs μ B) (dk : ∀ (k : Nat) (d : Wd), ds[k]? = some d → d.a < ins + k ∧ d.b < ins + k ∧ (d.w = "sum" ∨ d.w = "less")) {xs : List Int} (hl : xs.length = ins) (hx : ∀ x ∈ xs, x.natAbs ≤ 1) : ∀ i, i ≤ ds.length → ∀ k, k < ins + i → ((valsW xs (ds.take i)).getD k 0).natAbs ≤ 2 ^ ((μ.getD k 0).toNat + k)
  | 0, _, k, hk => by
    rw [List.take_zero]
    show (xs.getD k 0).natAbs ≤ _
    have e := List.getElem?_eq_getElem (l := xs) (i := k) (by omega)
    rw [getD_of e]
    exact Nat.le_trans (hx _ (List.mem_of_getElem? e)) Nat.one_le_two_pow
  | i + 1, hi, k, hk => by
    have ih := pot_bd P dk hl hx i (by omega)
    have ed := List.getElem?_eq_getElem (l := ds) (i := i) (by omega)
    generalize ds[i]'(by omega) = d at ed
    have vl : (valsW xs (ds.take i)).length = ins + i := by rw [valsW_len, List.length_take, hl]; omega
    rw [valsW_take ed]
    by_cases z : k < ins + i
    · rw [getD_snoc_lt (by omega)]
      exact ih k z
    · have kk : k = ins + i := by omega
      rw [getD_snoc_eq (by omega)]
      obtain ⟨a1, a2, a3⟩ := dk i d ed
      obtain ⟨p1, p2, p3, p4⟩ := P.dk i d ed
      have na := (P.nn d.a).1
      have nb := (P.nn d.b).1
      have h1 := ih d.a a1
      have h2 := ih d.b a2
      rw [kk]
      have m1 := mvI_bd p1 (c := d.s.toNat) (Nat.le_refl _) h1
      have m2 := mvI_bd p2 (c := d.t.toNat) (Nat.le_refl _) h2
      have t1 : (mvI d.s ((valsW xs (ds.take i)).getD d.a 0)).natAbs ≤ 2 ^ ((μ.getD (ins + i) 0).toNat + (ins + i - 1)) := Nat.le_trans m1 (Nat.pow_le_pow_right (by decide) (by omega))
      have t2 : (mvI d.t ((valsW xs (ds.take i)).getD d.b 0)).natAbs ≤ 2 ^ ((μ.getD (ins + i) 0).toNat + (ins + i - 1)) := Nat.le_trans m2 (Nat.pow_le_pow_right (by decide) (by omega))
      have t3 : (sgW d.w * mvI d.t ((valsW xs (ds.take i)).getD d.b 0)).natAbs ≤ 2 ^ ((μ.getD (ins + i) 0).toNat + (ins + i - 1)) := by
        have : sgW d.w = 1 ∨ sgW d.w = -1 := by rcases a3 with z | z <;> rw [z] <;> decide
        rcases this with z | z <;> rw [z]
        · rw [Int.one_mul]; exact t2
        · rw [Int.neg_one_mul, Int.natAbs_neg]; exact t2
      unfold valD
      refine Nat.le_trans (Int.natAbs_add_le _ _) ?_
      refine Nat.le_trans (Nat.add_le_add t1 t3) ?_
      rw [← Nat.two_mul, ← Nat.pow_succ']
      exact Nat.pow_le_pow_right (by decide) (by omega)
theorem TW.fw (T : TW ins ds gs μ B) : FW4 ins ds gs := by
  have dk : ∀ (k : Nat) (d : Wd), ds[k]? = some d → d.a < ins + k ∧ d.b < ins + k := fun k d h => ⟨(T.ok.dk k d h).1, (T.ok.dk k d h).2.1⟩
  have col := rows_col ds dk
  have i2 := T.ok.i2
  have d60 := T.ok.dl
  refine ⟨T.ok, fun k d hd => ?_, fun g hg => ?_, fun r hr => ?_, fun r hr => ?_⟩
  · obtain ⟨p1, p2, p3, p4⟩ := T.pot.dk k d hd
    have n1 := (T.pot.nn d.a).1
    have n2 := (T.pot.nn d.b).1
    have n3 := (T.pot.nn (ins + k)).2
    have := T.b
    exact ⟨(dk k d hd).1, (dk k d hd).2, ⟨by omega, by omega, fun z => by omega⟩, ⟨by omega, by omega, fun z => by omega⟩⟩
  · rcases (T.sg g hg).cases with ⟨_, z⟩ | z
    · exact .inl z
    · obtain ⟨q1, q2⟩ := T.pot.gk g hg
      have := q2 (by omega)
      have n1 := (T.pot.nn g.th).1
      have := T.b
      exact .inr ⟨z, by omega, by omega, fun y => by omega⟩
  · obtain ⟨k, hk⟩ := List.getElem?_of_mem hr
    have kl := (List.getElem?_eq_some_iff.mp hk).1
    rw [rowsW_len] at kl
    obtain ⟨c1, c2⟩ := col k kl
    rw [getD_of hk] at c1 c2
    refine ⟨by omega, fun x hx => ?_⟩
    obtain ⟨i, hi⟩ := List.getElem?_of_mem hx
    have il := (List.getElem?_eq_some_iff.mp hi).1
    have e := c2 i (by omega)
    rw [getD_of hi] at e
    have bd := pot_bd T.pot T.ok.dk (unitRow_len ins i) (fun y hy => by rcases unitRow_bound hy with z | z <;> rw [z] <;> decide) ds.length (Nat.le_refl _) k kl
    rw [List.take_length, ← e] at bd
    have n3 := T.pot.nn k
    have := T.b
    exact Nat.le_trans bd (Nat.pow_le_pow_right (by decide) (by omega))
  · obtain ⟨k, hk⟩ := List.getElem?_of_mem hr
    have kl := (List.getElem?_eq_some_iff.mp hk).1
    rw [rowsW_len] at kl
    rw [← getD_of (d := []) hk]
    exact (col k kl).1
end
def st0 (n m : Nat) : List Go := List.replicate n g0 ++ (List.range m).map fun p => ⟨p, 0, 1⟩
def trn (ins : Nat) (ds : List Wd) (gs : List Go) : List Wd × List Go := turnF gs.length ([], st0 (ins + ds.length) gs.length) (allA ins ds gs)
def trnD (ins : Nat) (ds : List Wd) (gs : List Go) : List Wd := (trn ins ds gs).1
def trnO (ins : Nat) (ds : List Wd) (gs : List Go) : List Go := (trn ins ds gs).2.take ins
theorem st0_len (n m : Nat) : (st0 n m).length = n + m := by unfold st0; rw [List.length_append, List.length_replicate, List.length_map, List.length_range]
theorem st0_at {n m k : Nat} {p : Go} (h : (st0 n m)[k]? = some p) : (k < n ∧ p = g0) ∨ (n ≤ k ∧ k < n + m ∧ p = ⟨k - n, 0, 1⟩) := by
  unfold st0 at h
  by_cases z : k < n
  · rw [List.getElem?_append_left (by rw [List.length_replicate]; exact z), List.getElem?_replicate, if_pos z] at h
    exact .inl ⟨z, (Option.some.inj h).symm⟩
  · rw [List.getElem?_append_right (by rw [List.length_replicate]; omega), List.length_replicate, List.getElem?_map] at h
    have kl : k - n < m := by
      obtain ⟨x, hx, _⟩ := Option.map_eq_some_iff.mp h
      have := (List.getElem?_eq_some_iff.mp hx).1
      rwa [List.length_range] at this
    rw [List.getElem?_range kl] at h
    exact .inr ⟨by omega, by omega, (Option.some.inj h).symm⟩
theorem turnF_len {m : Nat} (as : List Ar) : ∀ a : List Wd × List Go, (turnF m a as).2.length = a.2.length := by
  refine snoc_ind (p := fun as => ∀ a : List Wd × List Go, (turnF m a as).2.length = a.2.length) (fun _ => rfl) (fun e r ih a => ?_) as
  rw [turnF_snoc, ih]
  unfold turnT
  dsimp only
  rw [List.length_set]
section
variable {ins : Nat} {ds : List Wd} {gs : List Go} {μ : List Int} {B : Int}
def kap (μ : List Int) (m : Nat) (B : Int) : List Int := μ ++ List.replicate m B
theorem kap_lt {m k : Nat} (h : k < μ.length) : (kap μ m B).getD k 0 = μ.getD k 0 := by
  unfold kap
  rw [List.getD_eq_getElem?_getD, List.getD_eq_getElem?_getD, List.getElem?_append_left h]
theorem kap_ge {m k : Nat} (h : μ.length ≤ k) (h2 : k < μ.length + m) : (kap μ m B).getD k 0 = B := by
  unfold kap
  rw [List.getD_eq_getElem?_getD, List.getElem?_append_right h, List.getElem?_replicate, if_pos (by omega)]
  rfl
theorem TW.arr (T : TW ins ds gs μ B) : ∀ r ∈ allA ins ds gs, r.st < ins + ds.length ∧ r.go < ins + ds.length + gs.length ∧ 0 ≤ r.sh ∧ (r.sg = 1 ∨ r.sg = -1) ∧ (kap μ gs.length B).getD r.st 0 + r.sh ≤ (kap μ gs.length B).getD r.go 0 := fun r hr => by
  have ml := T.pot.len
  rcases List.mem_append.mp hr with z | z
  · obtain ⟨t, ht⟩ := List.getElem?_of_mem z
    obtain ⟨d, h1, h2, h3⟩ := arr_at ht
    have kl := (List.getElem?_eq_some_iff.mp h1).1
    obtain ⟨c1, c2, c3⟩ := T.ok.dk _ d h1
    obtain ⟨p1, p2, p3, p4⟩ := T.pot.dk _ d h1
    have sgd : sgW d.w = 1 ∨ sgW d.w = -1 := by rcases c3 with z | z <;> rw [z] <;> decide
    rw [Nat.add_zero] at h2
    rw [h2, kap_lt (k := ins + t / 2) (by omega)]
    rcases h3 with ⟨_, e⟩ | ⟨_, e⟩
    · rw [Nat.add_zero] at e
      rw [e]
      show d.a < _ ∧ _ ∧ 0 ≤ d.s ∧ ((1 : Int) = 1 ∨ (1 : Int) = -1) ∧ (kap μ gs.length B).getD d.a 0 + d.s ≤ _
      rw [kap_lt (k := d.a) (by omega)]
      exact ⟨by omega, by omega, p1, .inl rfl, p3⟩
    · rw [Nat.add_zero] at e
      rw [e]
      show d.b < _ ∧ _ ∧ 0 ≤ d.t ∧ (sgW d.w = 1 ∨ sgW d.w = -1) ∧ (kap μ gs.length B).getD d.b 0 + d.t ≤ _
      rw [kap_lt (k := d.b) (by omega)]
      exact ⟨by omega, by omega, p2, sgd, p4⟩
  · obtain ⟨k, g, h1, h2, rfl⟩ := oarr_mem z
    have kl := (List.getElem?_eq_some_iff.mp h1).1
    have hg := List.mem_of_getElem? h1
    have gk := T.ok.gk g hg
    obtain ⟨q1, q2⟩ := T.pot.gk g hg
    refine ⟨gk, by show ins + ds.length + (0 + k) < _; omega, q1, ?_, ?_⟩
    · rcases (T.sg g hg).cases with y | y
      · exact absurd y.1 h2
      · exact y
    · show (kap μ gs.length B).getD g.th 0 + g.sh ≤ (kap μ gs.length B).getD (ins + ds.length + (0 + k)) 0
      rw [kap_lt (by omega), kap_ge (by omega) (by omega)]
      exact q2 h2
theorem TW.val (T : TW ins ds gs μ B) (hm : 0 < gs.length) {ys : List Int} (hy : ys.length = gs.length) : TrV ys (trnD ins ds gs) (trn ins ds gs).2 ∧ (trn ins ds gs).2.map (outV (valsW ys (trnD ins ds gs))) = zF (zs0 (ins + ds.length) ys) (allA ins ds gs) := by
  have A := T.arr
  have B0 : TrV ys [] (st0 (ins + ds.length) gs.length) := by
    refine ⟨fun k d h => by simp at h, fun k p hp => ?_⟩
    rcases st0_at hp with ⟨_, rfl⟩ | ⟨_, _, rfl⟩
    · exact ⟨⟨by show 0 < _; omega, .inl rfl, Ex.up (Int.le_refl 0)⟩, Int.le_refl 0⟩
    · exact ⟨⟨by show k - (ins + ds.length) < ys.length + 0; omega, .inr (.inl rfl), Ex.up (Int.le_refl 0)⟩, Int.le_refl 0⟩
  have e0 : (st0 (ins + ds.length) gs.length).map (outV (valsW ys [])) = zs0 (ins + ds.length) ys := by
    unfold st0 zs0
    rw [List.map_append, List.map_replicate, List.map_map]
    congr 1
    · rw [show outV (valsW ys []) g0 = 0 by unfold outV g0; rw [Int.zero_mul]]
    · refine List.ext_getElem? fun j => ?_
      rw [List.getElem?_map]
      by_cases z : j < gs.length
      · rw [List.getElem?_range z]
        show some (1 * mvI 0 (ys.getD j 0)) = _
        have e := List.getElem?_eq_getElem (l := ys) (i := j) (by omega)
        rw [mvI_zero, Int.one_mul, e, getD_of e]
      · rw [List.getElem?_eq_none (by rw [List.length_range]; omega), List.getElem?_eq_none (by omega)]
        rfl
  have R := turn_val (by omega) (allA ins ds gs) [] (st0 (ins + ds.length) gs.length) (fun r hr => by
    obtain ⟨h1, h2, h3, h4, _⟩ := A r hr
    rw [st0_len]
    exact ⟨by omega, by omega, h3, h4⟩) B0
  rw [e0, hy] at R
  exact R
theorem TW.pots (T : TW ins ds gs μ B) (hm : 0 < gs.length) : ∃ μ', TrP gs.length (kap μ gs.length B) B (trnD ins ds gs) (trn ins ds gs).2 μ' := by
  have A := T.arr
  have ml := T.pot.len
  have nn := T.pot.nn
  have bn : 0 ≤ B := by have := nn 0; omega
  have kn : ∀ k, 0 ≤ (kap μ gs.length B).getD k 0 := fun k => by
    by_cases z : k < μ.length
    · rw [kap_lt z]; exact (nn k).1
    · by_cases z1 : k < μ.length + gs.length
      · rw [kap_ge (by omega) z1]; exact bn
      · unfold kap
        rw [List.getD_eq_getElem?_getD, List.getElem?_eq_none (by rw [List.length_append, List.length_replicate]; omega)]
        exact Int.le_refl 0
  have zg : ∀ k, (List.replicate gs.length (0 : Int)).getD k 0 = 0 := fun k => by
    rw [List.getD_eq_getElem?_getD, List.getElem?_replicate]
    split <;> rfl
  refine turn_pot kn hm (allA ins ds gs) [] (st0 (ins + ds.length) gs.length) (List.replicate gs.length 0) (fun r hr => by
    obtain ⟨h1, h2, h3, h4, h5⟩ := A r hr
    rw [st0_len]
    exact ⟨by omega, by omega, h3, h4, h5⟩) ⟨by rw [List.length_replicate]; rfl, fun k => by rw [zg]; exact ⟨Int.le_refl 0, bn⟩, fun k d h => by simp at h, fun k d h => by simp at h, fun k p hp => ?_⟩
  rcases st0_at hp with ⟨_, rfl⟩ | ⟨h1, h2, rfl⟩
  · exact ⟨by show 0 < _; omega, .inl rfl, Int.le_refl 0, fun z => absurd rfl z⟩
  · refine ⟨by show k - (ins + ds.length) < gs.length + 0; omega, .inr (.inl rfl), Int.le_refl 0, fun _ => ?_⟩
    rw [zg, kap_ge (by omega) (by omega)]
    show (0 : Int) + 0 ≤ B - B
    omega
def bs0 (n m : Nat) : List Bool := List.replicate n false ++ List.replicate m true
def metB (ins : Nat) (ds : List Wd) (gs : List Go) : List Bool := bF (bs0 (ins + ds.length) gs.length) (allA ins ds gs)
def mostV (ins : Nat) (ds : List Wd) (gs : List Go) : Int := (dcnt ins ds.length (metB ins ds gs) : Int) + (oarr (ins + ds.length) 0 gs).length - (dcnt 0 ins (metB ins ds gs) : Nat)
theorem dcnt_add (a b c : Nat) (bs : List Bool) : dcnt a (b + c) bs = dcnt a b bs + dcnt (a + b) c bs := by
  induction c with
  | zero => rfl
  | succ c ih => rw [← Nat.add_assoc, dcnt_succ, ih, dcnt_succ, Nat.add_assoc a b c]; omega
theorem dcnt_le (a b : Nat) (bs : List Bool) : dcnt a b bs ≤ b := by
  induction b with
  | zero => exact Nat.le_refl _
  | succ b ih => rw [dcnt_succ]; split <;> omega
theorem cnt_all : ∀ bs : List Bool, cnt bs = dcnt 0 bs.length bs := by
  refine snoc_ind (p := fun bs => cnt bs = dcnt 0 bs.length bs) rfl (fun bs b ih => ?_)
  rw [List.length_append, List.length_singleton, dcnt_succ]
  have e : dcnt 0 bs.length (bs ++ [b]) = dcnt 0 bs.length bs := by
    unfold dcnt
    congr 1
    refine List.map_congr_left fun j hj => ?_
    have := List.mem_range.mp hj
    rw [List.getD_eq_getElem?_getD, List.getD_eq_getElem?_getD, List.getElem?_append_left (by omega)]
  rw [e, ← ih]
  unfold cnt
  rw [List.count_append, List.getD_eq_getElem?_getD, List.getElem?_append_right (by omega)]
  simp
  cases b <;> rfl
theorem bs0_lt {n m k : Nat} (h : k < n) : (bs0 n m).getD k false = false := by
  unfold bs0
  rw [List.getD_eq_getElem?_getD, List.getElem?_append_left (by rw [List.length_replicate]; exact h), List.getElem?_replicate, if_pos h]
  rfl
theorem bs0_ge {n m k : Nat} (h : n ≤ k) (h2 : k < n + m) : (bs0 n m).getD k false = true := by
  unfold bs0
  rw [List.getD_eq_getElem?_getD, List.getElem?_append_right (by rw [List.length_replicate]; exact h), List.length_replicate, List.getElem?_replicate, if_pos (by omega)]
  rfl
theorem bs0_len (n m : Nat) : (bs0 n m).length = n + m := by unfold bs0; simp
theorem TW.many (T : TW ins ds gs μ B) : ((trnD ins ds gs).length : Int) = mostV ins ds gs ∧ (trnD ins ds gs).length ≤ gs.length + ds.length := by
  have A := T.arr
  have e0 : (st0 (ins + ds.length) gs.length).map nzB = bs0 (ins + ds.length) gs.length := by
    unfold st0 bs0
    rw [List.map_append, List.map_replicate, List.map_map]
    congr 1
    refine List.ext_getElem? fun j => ?_
    rw [List.getElem?_map, List.getElem?_replicate]
    by_cases z : j < gs.length
    · rw [List.getElem?_range z, if_pos z]; rfl
    · rw [List.getElem?_eq_none (by rw [List.length_range]; omega), if_neg z]; rfl
  obtain ⟨_, c2⟩ := turn_cnt (m := gs.length) (allA ins ds gs) [] (st0 (ins + ds.length) gs.length) (fun r hr => by
    obtain ⟨h1, h2, _, h4, _⟩ := A r hr
    rw [st0_len]
    exact ⟨by omega, by omega, h4⟩) (fun p hp => by
    obtain ⟨k, hk⟩ := List.getElem?_of_mem hp
    rcases st0_at hk with ⟨_, rfl⟩ | ⟨_, _, rfl⟩
    · exact .inl rfl
    · exact .inr (.inl rfl))
  rw [e0] at c2
  change (trnD ins ds gs).length + cnt (metB ins ds gs) = _ at c2
  have ml : (metB ins ds gs).length = ins + ds.length + gs.length := by unfold metB; rw [bF_len, bs0_len]
  have hi : ∀ k, ins + ds.length ≤ k → k < ins + ds.length + gs.length → (metB ins ds gs).getD k false = true := fun k h1 h2 => by
    unfold metB
    rw [bF_ne _ _ _ (fun r hr => by have := (A r hr).1; omega)]
    exact bs0_ge h1 h2
  have full : ∀ (bs : List Bool) (a b : Nat), (∀ k, a ≤ k → k < a + b → bs.getD k false = true) → dcnt a b bs = b := fun bs a b => by
    induction b with
    | zero => intro _; rfl
    | succ b ih =>
      intro h
      rw [dcnt_succ, ih (fun k h1 h2 => h k h1 (by omega)), if_pos (h (a + b) (by omega) (by omega))]
  have empty : ∀ (bs : List Bool) (a b : Nat), (∀ k, a ≤ k → k < a + b → bs.getD k false = false) → dcnt a b bs = 0 := fun bs a b => by
    induction b with
    | zero => intro _; rfl
    | succ b ih =>
      intro h
      rw [dcnt_succ, ih (fun k h1 h2 => h k h1 (by omega)), if_neg (by rw [h (a + b) (by omega) (by omega)]; decide)]
  have c3 : cnt (bs0 (ins + ds.length) gs.length) = gs.length := by
    rw [cnt_all, bs0_len, dcnt_add, empty _ _ _ (fun k _ h2 => bs0_lt (by omega)), full _ _ _ (fun k h1 h2 => bs0_ge (by omega) (by omega))]
    omega
  have c4 : cnt (metB ins ds gs) = dcnt 0 ins (metB ins ds gs) + dcnt ins ds.length (metB ins ds gs) + gs.length := by
    rw [cnt_all, ml, dcnt_add, dcnt_add, full _ (0 + (ins + ds.length)) gs.length (fun k h1 h2 => hi k (by omega) (by omega)), Nat.zero_add]
  have dk : ∀ (k : Nat) (d : Wd), ds[k]? = some d → d.a < ins + k ∧ d.b < ins + k := fun k d h => ⟨(T.ok.dk k d h).1, (T.ok.dk k d h).2.1⟩
  have c5 : eff (bs0 (ins + ds.length) gs.length) (allA ins ds gs).reverse = (oarr (ins + ds.length) 0 gs).length + 2 * dcnt ins ds.length (metB ins ds gs) := by
    unfold allA
    rw [List.reverse_append, eff_app]
    have o1 : eff (bs0 (ins + ds.length) gs.length) (oarr (ins + ds.length) 0 gs).reverse = (oarr (ins + ds.length) 0 gs).length := by
      rw [eff_outs (n := ins + ds.length) _ _ (fun r hr => ?_), List.length_reverse]
      have hr' := List.mem_reverse.mp hr
      have := A r (List.mem_append_right _ hr')
      obtain ⟨k, g, h1, h2, rfl⟩ := oarr_mem hr'
      have kl := (List.getElem?_eq_some_iff.mp h1).1
      exact ⟨this.1, by show _ ≤ ins + ds.length + (0 + k); omega, bs0_ge (by show _ ≤ ins + ds.length + (0 + k); omega) this.2.1⟩
    rw [o1]
    congr 1
    have o2 := eff_deeds ds dk (bF (bs0 (ins + ds.length) gs.length) (oarr (ins + ds.length) 0 gs))
    show eff (bF (bs0 (ins + ds.length) gs.length) (oarr (ins + ds.length) 0 gs)) _ = _
    rw [o2]
    unfold metB allA
    rw [bF_app]
  rw [c3, c4, c5, List.length_nil] at c2
  unfold mostV
  have ol := oarr_len (ins + ds.length) gs 0
  have dl := dcnt_le ins ds.length (metB ins ds gs)
  refine ⟨by omega, by omega⟩
theorem TW.turn (T : TW ins ds gs μ B) (hm : 0 < gs.length) (h60 : gs.length + ds.length ≤ 60) : ∃ μ', TW gs.length (trnD ins ds gs) (trnO ins ds gs) μ' B := by
  obtain ⟨μ', P⟩ := T.pots hm
  obtain ⟨V, _⟩ := T.val hm (unitRow_len gs.length 0)
  have many := T.many.2
  have i2 := T.ok.i2
  have mem : ∀ g ∈ trnO ins ds gs, ∃ k, k < ins ∧ (trn ins ds gs).2[k]? = some g := fun g hg => by
    obtain ⟨k, hk⟩ := List.getElem?_of_mem hg
    unfold trnO at hk
    rw [List.getElem?_take] at hk
    by_cases z : k < ins
    · rw [if_pos z] at hk; exact ⟨k, z, hk⟩
    · rw [if_neg z] at hk; cases hk
  refine ⟨μ', ⟨by omega, T.ok.gl, fun k d hd => ?_, fun g hg => ?_, by omega, by unfold trnO; rw [List.length_take]; omega⟩, fun g hg => ?_, ⟨P.len, P.nn, P.dk, fun g hg => ?_⟩, T.b⟩
  · have := V.ex k d hd
    rw [unitRow_len] at this
    exact ⟨this.1, this.2.1, this.2.2.1⟩
  · obtain ⟨k, _, hk⟩ := mem g hg
    exact (P.pt k g hk).1
  · obtain ⟨k, _, hk⟩ := mem g hg
    exact (P.pt k g hk).2.1
  · obtain ⟨k, kl, hk⟩ := mem g hg
    obtain ⟨_, _, c3, c4⟩ := P.pt k g hk
    refine ⟨c3, fun nz => ?_⟩
    have := c4 nz
    rw [kap_lt (by have := T.pot.len; omega)] at this
    have := (T.pot.nn k).1
    omega
theorem trnO_len (T : TW ins ds gs μ B) : (trnO ins ds gs).length = ins := by
  unfold trnO trn
  rw [List.length_take, turnF_len, st0_len]
  omega
theorem TW.outs (T : TW ins ds gs μ B) (hm : 0 < gs.length) (h60 : gs.length + ds.length ≤ 60) : outsR gs.length (trnD ins ds gs) (trnO ins ds gs) = (List.range ins).map (colM (outsR ins ds gs)) := by
  obtain ⟨μ', T'⟩ := T.turn hm h60
  have dk : ∀ (k : Nat) (d : Wd), ds[k]? = some d → d.a < ins + k ∧ d.b < ins + k := fun k d h => ⟨(T.ok.dk k d h).1, (T.ok.dk k d h).2.1⟩
  have dk' : ∀ (k : Nat) (d : Wd), (trnD ins ds gs)[k]? = some d → d.a < gs.length + k ∧ d.b < gs.length + k := fun k d h => ⟨(T'.ok.dk k d h).1, (T'.ok.dk k d h).2.1⟩
  have ol := trnO_len T
  have i1 := T.ok.i1
  have zl : ∀ ys : List Int, ys.length = gs.length → (zF (zs0 (ins + ds.length) ys) (allA ins ds gs)).length = ins + ds.length + gs.length := fun ys hy => by rw [zF_len]; unfold zs0; rw [List.length_append, List.length_replicate, hy]
  refine List.ext_getElem? fun i => ?_
  unfold outsR
  rw [List.getElem?_map, List.getElem?_map]
  by_cases z : i < ins
  · have ei := List.getElem?_eq_getElem (l := trnO ins ds gs) (i := i) (by omega)
    rw [ei, List.getElem?_range z]
    generalize (trnO ins ds gs)[i]'(by omega) = g at ei
    have gm := List.mem_of_getElem? ei
    have gth := T'.ok.gk g gm
    show some (outR (rowsW gs.length (trnD ins ds gs)) g) = some (colM (gs.map (outR (rowsW ins ds))) i)
    refine congrArg some ?_
    have rl := (rows_col (trnD ins ds gs) dk' g.th gth).1
    refine List.ext_getElem? fun p => ?_
    unfold colM
    rw [List.getElem?_map, List.getElem?_map]
    by_cases y : p < gs.length
    · have ep := List.getElem?_eq_getElem y
      rw [ep]
      have e1 := outR_col dk' gth y
      have hp : p < (outR (rowsW gs.length (trnD ins ds gs)) g).length := by unfold outR; rw [List.length_map, rl]; exact y
      rw [getD_of (List.getElem?_eq_getElem hp)] at e1
      rw [List.getElem?_eq_getElem hp, e1]
      show _ = some ((outR (rowsW ins ds) gs[p]).getD i 0)
      rw [outR_col dk (T.ok.gk _ (List.mem_of_getElem? ep)) z]
      congr 1
      have V := (T.val hm (unitRow_len gs.length p)).2
      have t1 : ((trn ins ds gs).2.map (outV (valsW (unitRow gs.length p) (trnD ins ds gs)))).getD i 0 = outV (valsW (unitRow gs.length p) (trnD ins ds gs)) g := by
        refine getD_of ?_
        unfold trnO at ei
        rw [List.getElem?_take, if_pos z] at ei
        rw [List.getElem?_map, ei]
        rfl
      rw [V] at t1
      rw [← t1, ← dot_unitR (n := ins) z (by rw [zl _ (unitRow_len _ _)]; omega)]
      have adj := turn_adj (xs := unitRow ins i) (ys := unitRow gs.length p) (ds := ds) (gs := gs) (fun k d hd => by
        rw [unitRow_len]
        exact ⟨(dk k d hd).1, (dk k d hd).2, (T.pot.dk k d hd).1, (T.pot.dk k d hd).2.1⟩) (fun h hh => by
        rw [unitRow_len]
        exact ⟨T.ok.gk h hh, (T.pot.gk h hh).1⟩) (unitRow_len _ _)
      rw [unitRow_len] at adj
      rw [adj]
      have vl : (gs.map (outV (valsW (unitRow ins i) ds))).length = gs.length := List.length_map _
      have du := dot_unit (xs := gs.map (outV (valsW (unitRow ins i) ds))) (i := p) (by omega)
      rw [vl] at du
      rw [du]
      refine getD_of ?_
      rw [List.getElem?_map, ep]
      rfl
    · rw [List.getElem?_eq_none (by unfold outR; rw [List.length_map, rl]; omega), List.getElem?_eq_none (l := gs) (by omega)]
      rfl
  · rw [List.getElem?_eq_none (l := trnO ins ds gs) (by omega), List.getElem?_eq_none (l := List.range ins) (by rw [List.length_range]; omega)]
    rfl
end
end L2
set_option Elab.async false
set_option linter.all false
set_option maxRecDepth 100000
set_option maxHeartbeats 1000000
namespace L2
open PySem PySem.Spec PyProof.Rows
def spCntK (K : PySem.W.Frag) : Sp := fun vs H Q _ => ∃ (w dl gl : Addr) (ins : Nat) (us : List V) (ds : List Wd) (os : List V) (gs : List Go), vs = [.ref w] ∧ WbK K H w dl gl ins us ds os gs ∧ Q (.int ((ins : Int) + (ds.length : Nat))) H
def spOArrK (K : PySem.W.Frag) : Sp := fun vs H Q _ => ∃ (w dl gl : Addr) (ins : Nat) (us : List V) (ds : List Wd) (os : List V) (gs : List Go), vs = [.ref w] ∧ WbK K H w dl gl ins us ds os gs ∧ gs.length ≤ 400 ∧
  ∀ r ws H', H r = none → Same H H' → H' r = some (.lst ws) → HTs aTup H' ws (oarr (ins + ds.length) 0 gs) → Q (.ref r) H'
def spArrK (K : PySem.W.Frag) : Sp := fun vs H Q _ => ∃ (w dl gl : Addr) (ins : Nat) (us : List V) (ds : List Wd) (os : List V) (gs : List Go), vs = [.ref w] ∧ WbK K H w dl gl ins us ds os gs ∧ ds.length ≤ 300 ∧ gs.length ≤ 300 ∧
  ∀ r ws H', H r = none → Same H H' → H' r = some (.lst ws) → HTs aTup H' ws (allA ins ds gs) → Q (.ref r) H'
def spRefK (K : PySem.W.Frag) : Sp := fun vs H Q _ => ∃ (w dl gl : Addr) (ins : Nat) (us : List V) (ds : List Wd) (os : List V) (gs : List Go), vs = [.ref w] ∧ WbK K H w dl gl ins us ds os gs ∧ ds.length ≤ 60 ∧ gs.length ≤ 12 ∧ (∀ d ∈ ds, 0 ≤ d.s ∧ 0 ≤ d.t) ∧ (∀ g ∈ gs, 0 ≤ g.sh) ∧ ∀ H', Same H H' → Q .non H'
def spTurnE (K : PySem.W.Frag) : Sp := fun vs H Q _ => ∃ (w dl gl : Addr) (ins : Nat) (us : List V) (ds : List Wd) (os : List V) (gs : List Go) (μ : List Int) (B : Int), vs = [.ref w] ∧ WbK K H w dl gl ins us ds os gs ∧ TW ins ds gs μ B ∧ 0 < gs.length ∧
  ∀ r d3 g3 xs ys H', H r = none → H d3 = none → H g3 = none → d3 ≠ g3 → Same H H' → WbK K H' r d3 g3 gs.length xs (trnD ins ds gs) ys (trnO ins ds gs) → Q (.ref r) H'
theorem TW.low {ins : Nat} {ds : List Wd} {gs : List Go} {μ : List Int} {B : Int} (T : TW ins ds gs μ B) : (∀ d ∈ ds, 0 ≤ d.s ∧ 0 ≤ d.t) ∧ ∀ g ∈ gs, 0 ≤ g.sh := ⟨fun d hd => by
  obtain ⟨k, hk⟩ := List.getElem?_of_mem hd
  exact ⟨(T.pot.dk k d hk).1, (T.pot.dk k d hk).2.1⟩, fun g hg => (T.pot.gk g hg).1⟩
section
variable {α : Type} {K : PySem.W.Frag} {f : α → List V} {H H' : Hp} {vs us : List V} {xs : List α} {l : Addr}
theorem HKs.set {i : Nat} {x : α} {p : Addr} (h : HKs K f H vs xs) (hi : i < vs.length) (hx : SqT K H p (f x)) : HKs K f H (vs.set i (.ref p)) (xs.set i x) := by
  have l := h.len
  refine ⟨by rw [List.length_set, List.length_set, l], fun k y hy => ?_⟩
  by_cases z : i = k
  · subst z
    rw [List.getElem?_set_self (by omega)] at hy
    cases hy
    exact ⟨p, List.getElem?_set_self hi, hx⟩
  · rw [List.getElem?_set_ne z] at hy
    rw [List.getElem?_set_ne z]
    exact h.at_ k y hy
theorem HKs.take {n : Nat} (h : HKs K f H vs xs) : HKs K f H (vs.take n) (xs.take n) := by
  refine ⟨by rw [List.length_take, List.length_take, h.len], fun k y hy => ?_⟩
  rw [List.getElem?_take] at hy ⊢
  by_cases z : k < n
  · rw [if_pos z] at hy ⊢; exact h.at_ k y hy
  · rw [if_neg z] at hy; cases hy
end
section
variable {K : PySem.W.Frag} {σ : St} {H : Hp} {Q : VK} {cs : List Nat} {te : TE}
theorem comp_rK {α : Type} {f : α → List V} {n : Nat} (hz : n ≤ 1000) (F : Nat → α)
    (hb : ∀ (i : Nat) H' (R : VK), i < n → Same H H' → (∀ p H5, Same H' H5 → SqT K H5 p (f (F i)) → R (.ref p) H5) → te (some (.int (0 + (i : Int))) :: capV cs σ) H' R)
    (hd : ∀ acc ws H', H acc = none → Same H H' → H' acc = some (.lst ws) → HKs K f H' ws ((List.range n).map F) → Q (.ref acc) H') : CompIt (Itr 0 n) 1 cs (gName 0) tYes te σ H Q := by
  refine comp_any n (fun acc i ws H' => Same H H' ∧ H acc = none ∧ H' acc = some (.lst ws) ∧ HKs K f H' ws ((List.range i).map F)) (le_size hz) ?_ ?_ ?_ ?_ ?_ ?_
  · rintro acc i ws H' hi _
    exact hi
  · rintro acc ws H' _
    exact Nat.le_refl _
  · intro acc ha
    exact ⟨same_new ha _, ha, upd_same, hks_nil⟩
  · rintro acc i ws H' ⟨s, _, ha, hw⟩
    have := hw.len
    rw [List.length_map, List.length_range] at this
    exact ⟨ha, by omega⟩
  · rintro acc i ws H' ts v H2 N hn hi ⟨s, hn', ha, hw⟩ ⟨rfl, rfl⟩ hts hN
    obtain ⟨t0, rfl⟩ : ∃ t0, ts = [t0] := by
      match ts, hts with
      | [a], _ => exact ⟨a, rfl⟩
    rw [w_gName, w_yes, if_pos rfl]
    refine hb i _ _ hi s fun p H5 s5 h5 => ?_
    have ha5 := s5 _ _ ha
    refine ⟨ha5, hN _ [_] _ rfl ⟨same_upd hn (s.trans s5), hn', upd_same, ?_⟩⟩
    rw [List.range_succ, List.map_append]
    exact ((hw.same s5).snoc h5).chgL ha5 (Chg.upd _)
  · rintro acc ws H' hn ⟨s, _, ha, hw⟩
    exact hd acc ws H' hn s ha hw
end
theorem turnF_cons (m : Nat) (a : List Wd × List Go) (as : List Ar) (r : Ar) : turnF m a (r :: as) = turnT m (turnF m a as) r := by unfold turnF; rw [List.reverse_cons, List.foldl_append]; rfl
def ShU (s : Int) (_ : List Int) : Prop := 0 ≤ s ∧ s ≤ 4000
def spOutsU (K : PySem.W.Frag) : Sp := fun vs H Q _ => ∃ (w dl gl : Addr) (ins : Nat) (us : List V) (ds : List Wd) (os : List V) (gs : List Go), vs = [.ref w, .int ins] ∧ WbK K H w dl gl ins us ds os gs ∧ FW4 ins ds gs ∧ lowOk ds gs ∧
  ∀ r H', H r = none → Same H H' → LL H' r (outsR ins ds gs) → Q (.ref r) H'
end L2
set_option Elab.async false
set_option linter.all false
set_option maxRecDepth 100000
set_option maxHeartbeats 1000000
namespace L2
open PySem PySem.Spec PyProof.Rows
def DeOkU (ins j : Nat) (d : Wd) : Prop := d.a < ins + j ∧ d.b < ins + j ∧ (d.w = "sum" ∨ d.w = "less") ∧ 0 ≤ d.s ∧ d.s ≤ 40 ∧ 0 ≤ d.t ∧ d.t ≤ 40
def GOkU (n : Nat) (g : Go) : Prop := g.th < n ∧ 0 ≤ g.sh ∧ g.sh ≤ 40 ∧ SgOk g
structure DW (H : Hp) (p : Addr) (ins : Nat) (dl : Addr) (k : Nat) (us : List V) (ds : List Wd) (H' : Hp) : Prop where
  dll : H' dl = some (.lst us)
  hds : HTs wTup H' us ds
  dlen : ds.length = k
  dk : ∀ (j : Nat) (d : Wd), ds[j]? = some d → DeOkU ins j d
  chg : Chg p H H'
  ndl : H dl = none
  dp : dl ≠ p
structure GW (H : Hp) (p gl : Addr) (n j : Nat) (os : List V) (gs : List Go) (H' : Hp) : Prop where
  gll : H' gl = some (.lst os)
  hgs : HTs gTp H' os gs
  glen : gs.length = j
  gk : ∀ g ∈ gs, GOkU n g
  ngl : H gl = none
  gp : gl ≠ p
section
variable {H : Hp} {p dl gl a : Addr} {ins k n j : Nat} {us os : List V} {ds : List Wd} {gs : List Go} {H' H'' : Hp} {c : Int}
theorem DW.step (h : DW H p ins dl k us ds H') (P : LPen H' p a c) (C : Chg p H' H'') : DW H p ins dl k us ds H'' := by
  obtain ⟨xs, hp⟩ := P.lst
  exact ⟨C _ _ h.dp h.dll, h.hds.chgL hp C, h.dlen, h.dk, h.chg.trans C, h.ndl, h.dp⟩
theorem GW.step (h : GW H p gl n j os gs H') (P : LPen H' p a c) (C : Chg p H' H'') : GW H p gl n j os gs H'' := by
  obtain ⟨xs, hp⟩ := P.lst
  exact ⟨C _ _ h.gp h.gll, h.hgs.chgL hp C, h.glen, h.gk, h.ngl, h.gp⟩
theorem DW.app {x : Addr} {d : Wd} (h : DW H p ins dl k us ds H') (hx : H' x = some (.tup (wTup d))) (hd : DeOkU ins k d) : DW H p ins dl (k + 1) (us ++ [.ref x]) (ds ++ [d]) (upd H' dl (.lst (us ++ [.ref x]))) := by
  have xd : x ≠ dl := ne_of hx h.dll (by intro z; cases z)
  refine ⟨upd_same, (h.hds.chgL h.dll (Chg.upd _)).snoc (by rw [upd_ne xd]; exact hx), by rw [List.length_append, h.dlen]; rfl, fun i e he => ?_, ?_, h.ndl, h.dp⟩
  · rcases get_snoc he with ⟨il, z⟩ | ⟨il, rfl⟩
    · exact h.dk i e z
    · rw [il, h.dlen]; exact hd
  · exact Chg.updN h.chg h.ndl
theorem GW.app {x : Addr} {g : Go} (h : GW H p gl n j os gs H') (hx : H' x = some (.tup (gTp g))) (hg : GOkU n g) : GW H p gl n (j + 1) (os ++ [.ref x]) (gs ++ [g]) (upd H' gl (.lst (os ++ [.ref x]))) := by
  have xd : x ≠ gl := ne_of hx h.gll (by intro z; cases z)
  refine ⟨upd_same, (h.hgs.chgL h.gll (Chg.upd _)).snoc (by rw [upd_ne xd]; exact hx), by rw [List.length_append, h.glen]; rfl, fun e he => ?_, h.ngl, h.gp⟩
  rcases List.mem_append.mp he with z | z
  · exact h.gk e z
  · rw [List.mem_singleton.mp z]; exact hg
theorem DW.upd {q : Addr} {ys zs : List V} (h : DW H p ins dl k us ds H') (hq : H' q = some (.lst ys)) (nq : H q = none) (qd : q ≠ dl) : DW H p ins dl k us ds (upd H' q (.lst zs)) :=
  ⟨by rw [upd_ne qd.symm]; exact h.dll, h.hds.chgL hq (Chg.upd _), h.dlen, h.dk, Chg.updN h.chg nq, h.ndl, h.dp⟩
end
def mu40 (n : Nat) : List Int := (List.range n).map fun (j : Nat) => 40 * (j : Int)
theorem mu40_at {n k : Nat} (h : k < n) : (mu40 n).getD k 0 = 40 * (k : Int) := by
  refine getD_of ?_
  unfold mu40
  rw [List.getElem?_map, List.getElem?_range h]
  rfl
theorem tw_of {ins : Nat} {ds : List Wd} {gs : List Go} (i1 : 1 ≤ ins) (i2 : ins ≤ 12) (hd : ds.length ≤ 30) (hg : gs.length ≤ 12) (dk : ∀ (j : Nat) (d : Wd), ds[j]? = some d → DeOkU ins j d) (gk : ∀ g ∈ gs, GOkU (ins + ds.length) g) : TW ins ds gs (mu40 (ins + ds.length)) (40 * ((ins + ds.length : Nat) : Int) + 40) := by
  refine ⟨⟨i1, i2, fun k d h => ⟨(dk k d h).1, (dk k d h).2.1, (dk k d h).2.2.1⟩, fun g h => (gk g h).1, by omega, hg⟩, fun g h => (gk g h).2.2.2, ⟨by unfold mu40; simp, fun k => ?_, fun k d h => ?_, fun g h => ?_⟩, by omega⟩
  · by_cases z : k < ins + ds.length
    · rw [mu40_at z]; omega
    · rw [List.getD_eq_getElem?_getD, List.getElem?_eq_none (by unfold mu40; simp; omega)]
      show 0 ≤ (0 : Int) ∧ (0 : Int) ≤ _
      omega
  · have kl := (List.getElem?_eq_some_iff.mp h).1
    obtain ⟨c1, c2, _, c4, c5, c6, c7⟩ := dk k d h
    rw [mu40_at (by omega), mu40_at (by omega), mu40_at (by omega)]
    omega
  · obtain ⟨c1, c2, c3, _⟩ := gk g h
    rw [mu40_at c1]
    exact ⟨c2, fun _ => by omega⟩
def spUpU (K : PySem.W.Frag) : Sp := fun vs H Q _ => ∃ (p a : Addr) (ns : List Int) (c : Int), vs = [.ref p] ∧ LPen H p a c ∧ Scr K H a ns ∧ ns.length ≤ 63 ∧ c ≤ 100000000 ∧
  ∀ (r : Int) H', 0 ≤ r → r ≤ 40 → LPen H' p a (c + 3) → Scr K H' a ns → Chg p H H' → Q (.int r) H'
def spWebU (K : PySem.W.Frag) : Sp := fun vs H Q _ => ∃ (p a : Addr) (ns : List Int) (c : Int), vs = [.ref p] ∧ LPen H p a c ∧ Scr K H a ns ∧ ns.length ≤ 63 ∧ c ≤ 90000000 ∧
  ∀ (w dl gl : Addr) (ins : Nat) (us : List V) (ds : List Wd) (os : List V) (gs : List Go) (μ : List Int) (B : Int) H', H w = none → H dl = none → H gl = none → dl ≠ gl → Wb H' w dl gl ins us ds os gs → TW ins ds gs μ B → ds.length ≤ 30 → 0 < gs.length → LPen H' p a (c + 100000) → Scr K H' a ns → Chg p H H' → Q (.ref w) H'
end L2
set_option Elab.async false
set_option linter.all false
set_option maxRecDepth 100000
set_option maxHeartbeats 1000000
namespace L2
open PySem PySem.Spec PyProof.Rows
theorem call_lenF {X : Cx} : CallR X (.builtin "len") (fun xs H Q => ∃ a o kvs, xs = [V.ref a] ∧ H a = some (.frz o (.dK kvs)) ∧ Q (.int kvs.length) H) := by
  intro pins s σ H xs us Q I r h
  obtain ⟨a, o, kvs, rfl, ha, q⟩ := h
  obtain ⟨u, rfl, ru⟩ := vals1 r
  cases ru
  exact d_len I (.inr ⟨o, ha⟩) fun t s' I' => ⟨.int kvs.length, H, I', ⟨t, rfl⟩, q⟩
theorem bF_cons (bs : List Bool) (as : List Ar) (a : Ar) : bF bs (a :: as) = bT (bF bs as) a := by unfold bF; rw [List.reverse_cons, List.foldl_append]; rfl
theorem bT_at {bs : List Bool} {r : Ar} {t : Nat} (h : r.st < bs.length) : (bT bs r).getD t false = (bs.getD t false || (decide (r.st = t) && bs.getD r.go false)) := by
  unfold bT
  by_cases z : r.st = t
  · subst z
    rw [List.getD_eq_getElem?_getD, List.getElem?_set_self h]
    simp
  · rw [getD_set_neB z]
    simp [z]
structure MS (n : Nat) (bs : List Bool) (ks : List Int) : Prop where
  nd : ks.Nodup
  mem : ∀ k : Int, k ∈ ks ↔ ∃ t : Nat, k = t ∧ t < n ∧ bs.getD t false = true
def putI (ks : List Int) (k : Int) : List Int := if k ∈ ks then ks else ks ++ [k]
theorem putI_mem {ks : List Int} {k x : Int} : x ∈ putI ks k ↔ x ∈ ks ∨ x = k := by
  unfold putI
  split
  · rename_i h
    exact ⟨.inl, fun z => z.elim id fun y => by rw [y]; exact h⟩
  · rw [List.mem_append, List.mem_singleton]
theorem putI_nd {ks : List Int} {k : Int} (h : ks.Nodup) : (putI ks k).Nodup := by
  unfold putI
  split
  · exact h
  · rename_i z
    rw [List.nodup_append]
    exact ⟨h, by simp, fun a ha b hb e => z (by rw [List.mem_singleton.mp hb] at e; rw [← e]; exact ha)⟩
theorem putI_len {ks : List Int} {k : Int} : (putI ks k).length ≤ ks.length + 1 := by
  unfold putI
  split
  · omega
  · rw [List.length_append]; exact Nat.le_refl _
theorem range_cnt (a : Nat) (bs : List Bool) : ∀ k, ((List.range k).filter fun j => bs.getD (a + j) false).length = dcnt a k bs
  | 0 => rfl
  | k + 1 => by
    rw [List.range_succ, List.filter_append, List.length_append, range_cnt a bs k, dcnt_succ]
    congr 1
    simp only [List.filter_cons, List.filter_nil]
    split <;> simp_all
theorem nodup_cnt {a k : Nat} {bs : List Bool} {ks : List Int} (nd : ks.Nodup) (h : ∀ x : Int, x ∈ ks ↔ ∃ j : Nat, j < k ∧ x = ((a + j : Nat) : Int) ∧ bs.getD (a + j) false = true) : ks.length = dcnt a k bs := by
  rw [← range_cnt a bs k]
  have ndr : (((List.range k).filter fun j => bs.getD (a + j) false).map fun (j : Nat) => ((a + j : Nat) : Int)).Nodup := by
    have n1 : ((List.range k).filter fun j => bs.getD (a + j) false).Nodup := List.Nodup.sublist List.filter_sublist List.nodup_range
    refine List.Pairwise.map _ (fun x y hxy => ?_) n1
    intro e
    exact hxy (by omega)
  have l1 := nodup_len nd (m := ((List.range k).filter fun j => bs.getD (a + j) false).map fun (j : Nat) => ((a + j : Nat) : Int)) (fun x hx => by
    obtain ⟨j, h1, h2, h3⟩ := (h x).mp hx
    exact List.mem_map.mpr ⟨j, List.mem_filter.mpr ⟨List.mem_range.mpr h1, h3⟩, h2.symm⟩)
  have l2 := nodup_len ndr (m := ks) (fun x hx => by
    obtain ⟨j, hj, rfl⟩ := List.mem_map.mp hx
    obtain ⟨h1, h2⟩ := List.mem_filter.mp hj
    exact (h _).mpr ⟨j, List.mem_range.mp h1, rfl, h2⟩)
  rw [List.length_map] at l1 l2
  omega
theorem MS.len {n : Nat} {bs : List Bool} {ks : List Int} (h : MS n bs ks) : ks.length = dcnt 0 n bs :=
  nodup_cnt h.nd fun x => (h.mem x).trans ⟨fun ⟨t, a, b, c⟩ => ⟨t, b, by rw [Nat.zero_add]; exact a, by rw [Nat.zero_add]; exact c⟩, fun ⟨j, a, b, c⟩ => ⟨j, by rw [Nat.zero_add] at b; exact b, a, by rw [Nat.zero_add] at c; exact c⟩⟩
theorem MS.gone {ins k : Nat} {bs : List Bool} {ks : List Int} (h : MS (ins + k) bs ks) : (ks.filter fun x => decide ((ins : Int) ≤ x)).length = dcnt ins k bs := by
  refine nodup_cnt (List.Nodup.sublist List.filter_sublist h.nd) fun x => ?_
  rw [List.mem_filter, h.mem, decide_eq_true_eq]
  constructor
  · rintro ⟨⟨t, rfl, a, b⟩, c⟩
    refine ⟨t - ins, by omega, by congr 1; omega, by rw [show ins + (t - ins) = t by omega]; exact b⟩
  · rintro ⟨j, a, rfl, b⟩
    exact ⟨⟨ins + j, rfl, by omega, b⟩, by omega⟩
theorem bF_outs {n : Nat} (gs : List Go) : (∀ g ∈ gs, g.th < n) → ∀ bs : List Bool, n + gs.length ≤ bs.length → (∀ k, n ≤ k → k < n + gs.length → bs.getD k false = true) → ∀ t, (bF bs (oarr n 0 gs)).getD t false = true ↔ (bs.getD t false = true ∨ ∃ g ∈ gs, g.sg ≠ 0 ∧ g.th = t) := by
  refine snoc_ind (p := fun gs => (∀ g ∈ gs, g.th < n) → ∀ bs : List Bool, n + gs.length ≤ bs.length → (∀ k, n ≤ k → k < n + gs.length → bs.getD k false = true) → ∀ t, (bF bs (oarr n 0 gs)).getD t false = true ↔ (bs.getD t false = true ∨ ∃ g ∈ gs, g.sg ≠ 0 ∧ g.th = t)) (fun _ bs _ _ t => ?_) (fun e g ih hE bs hb ht t => ?_) gs
  · show bs.getD t false = true ↔ _
    simp
  · have gth := hE g (List.mem_append_right _ (List.mem_singleton.mpr rfl))
    rw [List.length_append, List.length_singleton] at hb ht
    have eo : oarr n 0 (e ++ [g]) = oarr n 0 e ++ (if g.sg = 0 then [] else [⟨g.th, n + e.length, g.sh, g.sg⟩]) := by
      rw [oarr_app, Nat.zero_add]
      show _ ++ ((if g.sg = 0 then [] else [_]) ++ []) = _
      rw [List.append_nil]
    have ih' := ih fun x hx => hE x (List.mem_append_left _ hx)
    rw [eo]
    by_cases z : g.sg = 0
    · rw [if_pos z, List.append_nil, ih' bs (by omega) (fun k h1 h2 => ht k h1 (by omega))]
      constructor
      · rintro (a | ⟨x, hx, a⟩)
        · exact .inl a
        · exact .inr ⟨x, List.mem_append_left _ hx, a⟩
      · rintro (a | ⟨x, hx, a⟩)
        · exact .inl a
        · rcases List.mem_append.mp hx with y | y
          · exact .inr ⟨x, y, a⟩
          · rw [List.mem_singleton.mp y] at a; exact absurd z a.1
    · rw [if_neg z, bF_snoc, ih' _ (by rw [bT_len]; omega) (fun k h1 h2 => by rw [← ht k h1 (by omega)]; exact getD_set_neB (by show g.th ≠ k; omega)), bT_at (by show g.th < _; omega)]
      have tn : bs.getD (n + e.length) false = true := ht _ (by omega) (by omega)
      show ((bs.getD t false || (decide (g.th = t) && bs.getD (n + e.length) false)) = true ∨ _) ↔ _
      rw [tn, Bool.and_true, Bool.or_eq_true, decide_eq_true_eq]
      constructor
      · rintro ((a | a) | ⟨x, hx, a⟩)
        · exact .inl a
        · exact .inr ⟨g, List.mem_append_right _ (List.mem_singleton.mpr rfl), z, a⟩
        · exact .inr ⟨x, List.mem_append_left _ hx, a⟩
      · rintro (a | ⟨x, hx, a⟩)
        · exact .inl (.inl a)
        · rcases List.mem_append.mp hx with y | y
          · exact .inr ⟨x, y, a⟩
          · rw [List.mem_singleton.mp y] at a; exact .inl (.inr a.2)
def metK (ins : Nat) (ds : List Wd) (gs : List Go) (k : Nat) : List Bool := bF (bF (bs0 (ins + ds.length) gs.length) (oarr (ins + ds.length) 0 gs)) (arrF ins k (ds.drop k))
theorem metK_len (ins : Nat) (ds : List Wd) (gs : List Go) (k : Nat) : (metK ins ds gs k).length = ins + ds.length + gs.length := by unfold metK; rw [bF_len, bF_len, bs0_len]
theorem metK_zero (ins : Nat) (ds : List Wd) (gs : List Go) : metK ins ds gs 0 = metB ins ds gs := by unfold metK metB allA; rw [bF_app, List.drop_zero]
theorem metK_end {ins : Nat} {ds : List Wd} {gs : List Go} (h : ∀ g ∈ gs, g.th < ins + ds.length) {t : Nat} (ht : t < ins + ds.length) : (metK ins ds gs ds.length).getD t false = true ↔ ∃ g ∈ gs, g.sg ≠ 0 ∧ g.th = t := by
  unfold metK
  rw [List.drop_length]
  show (bF _ []).getD t false = true ↔ _
  show (bF (bs0 (ins + ds.length) gs.length) (oarr (ins + ds.length) 0 gs)).getD t false = true ↔ _
  rw [bF_outs gs h _ (by rw [bs0_len]; exact Nat.le_refl _) (fun k h1 h2 => bs0_ge h1 h2), bs0_lt ht]
  simp
theorem metK_step {ins : Nat} {ds : List Wd} {gs : List Go} {k : Nat} {d : Wd} (hd : ds[k]? = some d) (ha : d.a < ins + k) (hb : d.b < ins + k) (t : Nat) :
    (metK ins ds gs k).getD t false = true ↔ ((metK ins ds gs (k + 1)).getD t false = true ∨ ((metK ins ds gs (k + 1)).getD (ins + k) false = true ∧ (t = d.a ∨ t = d.b))) := by
  have kl := (List.getElem?_eq_some_iff.mp hd).1
  have e : arrF ins k (ds.drop k) = ⟨d.a, ins + k, d.s, 1⟩ :: ⟨d.b, ins + k, d.t, sgW d.w⟩ :: arrF ins (k + 1) (ds.drop (k + 1)) := by
    rw [List.drop_eq_getElem_cons kl]
    have := (List.getElem?_eq_some_iff.mp hd).2
    rw [this]
    rfl
  have ml := metK_len ins ds gs (k + 1)
  have e2 : metK ins ds gs k = bT (bT (metK ins ds gs (k + 1)) ⟨d.b, ins + k, d.t, sgW d.w⟩) ⟨d.a, ins + k, d.s, 1⟩ := by
    unfold metK
    rw [e, bF_cons, bF_cons]
  rw [e2, bT_at (by rw [bT_len, ml]; show d.a < _; omega), bT_at (by rw [ml]; show d.b < _; omega), bT_at (by rw [ml]; show d.b < _; omega)]
  generalize metK ins ds gs (k + 1) = bs
  have nb : ¬ d.b = ins + k := by omega
  simp only [Bool.or_eq_true, Bool.and_eq_true, decide_eq_true_eq, nb, false_and, or_false]
  constructor
  · rintro ((a | ⟨a, b⟩) | ⟨a, b⟩)
    · exact .inl a
    · exact .inr ⟨b, .inr a.symm⟩
    · exact .inr ⟨b, .inl a.symm⟩
  · rintro (a | ⟨b, a | a⟩)
    · exact .inl (.inl a)
    · exact .inr ⟨a.symm, b⟩
    · exact .inl (.inr ⟨a.symm, b⟩)
theorem oarr_nz (n : Nat) : ∀ (gs : List Go) (j : Nat), (oarr n j gs).length = (gs.filter fun g => decide (g.sg ≠ 0)).length
  | [], j => rfl
  | g :: r, j => by
    show ((if g.sg = 0 then [] else [_]) ++ oarr n (j + 1) r).length = _
    rw [List.length_append, oarr_nz n r (j + 1), List.filter_cons]
    by_cases z : g.sg = 0
    · rw [if_pos z, if_neg (by simp [z])]; simp
    · rw [if_neg z, if_pos (by simp [z])]; simp; omega
def spMostU (K : PySem.W.Frag) : Sp := fun vs H Q _ => ∃ (w dl gl : Addr) (ins : Nat) (us : List V) (ds : List Wd) (os : List V) (gs : List Go), vs = [.ref w] ∧ WbK K H w dl gl ins us ds os gs ∧ WebOk ins ds gs ∧ ∀ H', Same H H' → Q (.int (mostV ins ds gs)) H'
section
variable {K : PySem.W.Frag} {σ : St} {H : Hp} {Q : VK} {cs : List Nat} {tt : TT}
theorem comp_filtN {α : Type} {l : Addr} {vs : List V} {xs : List α} (hl : H l = some (.lst vs)) (hlen : vs.length = xs.length) (hz : xs.length ≤ 1000) (f : α → Bool)
    (hb : ∀ (k : Nat) v x H' (R : Bool → Hp → Prop), vs[k]? = some v → xs[k]? = some x → Same H H' → R (f x) H' → tt (some v :: capV cs σ) H' R)
    (hd : ∀ acc ws H', H acc = none → Same H H' → H' acc = some (.lst ws) → ws.length = (xs.filter f).length → Q (.ref acc) H') : CompIt (Itl K l) 1 cs (gName 0) tt (tVar 0) σ H Q := by
  refine comp_any xs.length (fun acc i ws H' => Same H H' ∧ H acc = none ∧ H' acc = some (.lst ws) ∧ ws.length = ((xs.take i).filter f).length) (le_size hz) ?_ ?_ ?_ ?_ ?_ ?_
  · rintro acc i ws H' hi ⟨s, _⟩
    exact ⟨vs, vs[i]'(by omega), SqL.of (s _ _ hl), List.getElem?_eq_getElem _⟩
  · rintro acc ws H' ⟨s, _⟩
    exact ⟨vs, SqL.of (s _ _ hl), by omega⟩
  · intro acc ha
    exact ⟨same_new ha _, ha, upd_same, rfl⟩
  · rintro acc i ws H' ⟨s, _, ha, hw⟩
    exact ⟨ha, by rw [hw]; exact Nat.le_trans (List.length_filter_le _ _) (by rw [List.length_take]; omega)⟩
  · rintro acc i ws H' ts v H2 N hn hi ⟨s, hn', ha, hw⟩ ⟨rfl, hx0⟩ hts hN
    have hx := hx0 vs (SqL.of (s _ _ hl))
    have e1 : xs[i]? = some xs[i] := List.getElem?_eq_getElem hi
    generalize xs[i] = x at e1
    obtain ⟨t0, rfl⟩ : ∃ t0, ts = [t0] := by
      match ts, hts with
      | [a], _ => exact ⟨a, rfl⟩
    have tk : (xs.take (i + 1)).filter f = (xs.take i).filter f ++ (if f x = true then [x] else []) := by
      rw [List.take_add_one, e1, List.filter_append]
      congr 1
      show ([x].filter f) = _
      rw [List.filter_cons, List.filter_nil]
    rw [w_gName]
    refine hb i v x H2 _ hx e1 s ?_
    by_cases z : f x = true
    · rw [if_pos z, w_var]
      refine ⟨v, rfl, ha, hN _ [some v] _ rfl ⟨same_upd hn s, hn', upd_same, ?_⟩⟩
      rw [tk, if_pos z, List.length_append, List.length_append, hw]
      rfl
    · rw [if_neg z]
      refine hN _ [some v] _ rfl ⟨s, hn', ha, ?_⟩
      rw [tk, if_neg z, List.append_nil, hw]
  · rintro acc ws H' hn ⟨s, _, ha, hw⟩
    rw [List.take_length] at hw
    exact hd acc ws H' hn s ha hw
end
def geV (n : Int) : V → Option V := fun v => match v with
  | .int k => if n ≤ k then some (.int k) else none
  | _ => none
theorem geV_map (n : Int) : ∀ ks : List Int, (ks.map V.int).filterMap (geV n) = (ks.filter fun k => decide (n ≤ k)).map V.int
  | [] => rfl
  | k :: r => by
    rw [List.map_cons, List.filterMap_cons, List.filter_cons, geV_map n r]
    unfold geV
    by_cases z : n ≤ k
    · simp [z]
    · simp [z]
end L2
set_option Elab.async false
set_option linter.all false
set_option maxRecDepth 100000
set_option maxHeartbeats 1000000
namespace L2
open PySem PySem.Spec PyProof.Rows
section
variable {K : PySem.W.Frag} {σ : St} {H : Hp} {Q : VK} {cs : List Nat} {te : TE}
theorem comp_rLL {n : Nat} (hz : n ≤ 1000) (f : Nat → List Int)
    (hb : ∀ (i : Nat) H' (R : VK), i < n → Same H H' → (∀ q H5, H' q = none → Same H' H5 → H5 q = some (.lst ((f i).map V.int)) → R (.ref q) H5) → te (some (.int (0 + (i : Int))) :: capV cs σ) H' R)
    (hd : ∀ acc H', H acc = none → Same H H' → LL H' acc ((List.range n).map f) → Q (.ref acc) H') : CompIt (Itr 0 n) 1 cs (gName 0) tYes te σ H Q := by
  refine comp_any n (fun acc i ws H' => Same H H' ∧ H acc = none ∧ H' acc = some (.lst ws) ∧ ws.length = i ∧ ∀ (j : Nat), j < i → ∃ p, ws[j]? = some (.ref p) ∧ p ≠ acc ∧ H' p = some (.lst ((f j).map V.int))) (le_size hz) ?_ ?_ ?_ ?_ ?_ ?_
  · rintro acc i ws H' hi _
    exact hi
  · rintro acc ws H' _
    exact Nat.le_refl _
  · intro acc ha
    exact ⟨same_new ha _, ha, upd_same, rfl, fun j hj => by omega⟩
  · rintro acc i ws H' ⟨s, _, ha, hw, _⟩
    exact ⟨ha, by omega⟩
  · rintro acc i ws H' ts v H2 N hn hi ⟨s, hn', ha, hw, ht⟩ ⟨rfl, rfl⟩ hts hN
    obtain ⟨t0, rfl⟩ : ∃ t0, ts = [t0] := by
      match ts, hts with
      | [a], _ => exact ⟨a, rfl⟩
    rw [w_gName, w_yes, if_pos rfl]
    refine hb i _ _ hi s fun q H5 nq s5 hq => ?_
    have ha5 := s5 _ _ ha
    have qa : q ≠ acc := (ne_of_none ha nq).symm
    refine ⟨ha5, hN _ [_] _ rfl ⟨same_upd hn (s.trans s5), hn', upd_same, by rw [List.length_append, hw]; rfl, fun j hj => ?_⟩⟩
    by_cases z : j < i
    · obtain ⟨p', b1, b2, b3⟩ := ht j z
      exact ⟨p', by rw [List.getElem?_append_left (by omega)]; exact b1, b2, by rw [upd_ne b2]; exact s5 _ _ b3⟩
    · have ej : j = i := by omega
      subst ej
      exact ⟨q, by rw [List.getElem?_append_right (by omega), show j - ws.length = 0 by omega]; rfl, qa, by rw [upd_ne qa]; exact hq⟩
  · rintro acc ws H' hn ⟨s, _, ha, hw, ht⟩
    refine hd acc H' hn s ⟨ws, ha, by rw [List.length_map, List.length_range]; exact hw, fun j c hc => ?_⟩
    rw [List.getElem?_map] at hc
    obtain ⟨j', hj', rfl⟩ := Option.map_eq_some_iff.mp hc
    have jl := (List.getElem?_eq_some_iff.mp hj').1
    rw [List.length_range] at jl
    rw [List.getElem?_range jl] at hj'
    cases hj'
    exact ht j jl
end
theorem pi_listK (K : PySem.W.Frag) {X : Cx} {tg l : Expr} {tl : TE} (hl : PE X l tl) (h : X.K = K := by rfl) : PI X tg l (iList K tl) := by subst h; exact pi_list hl
def spRightU (K : PySem.W.Frag) : Sp := fun vs H Q _ => ∃ (x f dl gl d3 g3 : Addr) (ins : Nat) (us : List V) (ds : List Wd) (os : List V) (gs : List Go) (μ : List Int) (B : Int) (xs ys : List V), vs = [.ref x, .ref f] ∧ WbK K H x dl gl ins us ds os gs ∧ TW ins ds gs μ B ∧ 0 < gs.length ∧ gs.length + ds.length ≤ 60 ∧ WbK K H f d3 g3 gs.length xs (trnD ins ds gs) ys (trnO ins ds gs) ∧ ∀ H', Same H H' → Q (.bl true) H'
end L2
end

section
set_option Elab.async false
set_option linter.all false
set_option maxRecDepth 100000
set_option maxHeartbeats 4000000
namespace Law
open PySem L2
def top (i : Nat) : Stmt := PySem.Challenge.pw_shiftsums_k42_webs_turned_about.main.body.getD i (.Pass ⟨0, 0, 0, 0⟩)
abbrev s_second_sign : Stmt := top 6
theorem sc_second_sign : FnScope ["deed"] ["deed"] (defScope s_second_sign) := ⟨rfl, rfl, rfl, by decide +kernel, rfl, by decide +kernel, by decide +kernel⟩
abbrev s_arrows : Stmt := top 7
theorem sc_arrows : FnScope ["web"] ["web"] (defScope s_arrows) := ⟨rfl, rfl, rfl, by decide +kernel, rfl, by decide +kernel, by decide +kernel⟩
abbrev s_deed_arrows : Stmt := top 8
theorem sc_deed_arrows : FnScope ["web", "told", "place", "deed", "thing"] ["web"] (defScope s_deed_arrows) := ⟨rfl, rfl, rfl, by decide +kernel, rfl, by decide +kernel, by decide +kernel⟩
abbrev s_out_arrows : Stmt := top 9
theorem sc_out_arrows : FnScope ["web", "behind"] ["web"] (defScope s_out_arrows) := ⟨rfl, rfl, rfl, by decide +kernel, rfl, by decide +kernel, by decide +kernel⟩
abbrev s_thing_count : Stmt := top 10
theorem sc_thing_count : FnScope ["web"] ["web"] (defScope s_thing_count) := ⟨rfl, rfl, rfl, by decide +kernel, rfl, by decide +kernel, by decide +kernel⟩
abbrev s_moved : Stmt := top 12
theorem sc_moved : FnScope ["part", "shift", "sign"] ["part", "shift", "sign"] (defScope s_moved) := ⟨rfl, rfl, rfl, by decide +kernel, rfl, by decide +kernel, by decide +kernel⟩
abbrev s_deed_of : Stmt := top 13
theorem sc_deed_of : FnScope ["one", "other"] ["one", "other"] (defScope s_deed_of) := ⟨rfl, rfl, rfl, by decide +kernel, rfl, by decide +kernel, by decide +kernel⟩
abbrev s_sign_of : Stmt := top 14
theorem sc_sign_of : FnScope ["one", "other"] ["one", "other"] (defScope s_sign_of) := ⟨rfl, rfl, rfl, by decide +kernel, rfl, by decide +kernel, by decide +kernel⟩
abbrev s_add_sum : Stmt := top 15
theorem sc_add_sum : FnScope ["ins", "deeds", "one", "other"] ["ins", "deeds", "one", "other"] (defScope s_add_sum) := ⟨rfl, rfl, rfl, by decide +kernel, rfl, by decide +kernel, by decide +kernel⟩
abbrev s_turned : Stmt := top 17
theorem sc_turned : FnScope ["web", "ins", "deeds", "parts", "start", "goal", "shift", "sign"] ["web"] (defScope s_turned) := ⟨rfl, rfl, rfl, by decide +kernel, rfl, by decide +kernel, by decide +kernel⟩
abbrev s_refuse_down : Stmt := top 18
theorem sc_refuse_down : FnScope ["web", "place", "deed", "out"] ["web"] (defScope s_refuse_down) := ⟨rfl, rfl, rfl, by decide +kernel, rfl, by decide +kernel, by decide +kernel⟩
abbrev s_l_pen : Stmt := top 20
theorem sc_l_pen : FnScope ["_law_script"] ["_law_script"] (defScope s_l_pen) := ⟨rfl, rfl, rfl, by decide +kernel, rfl, by decide +kernel, by decide +kernel⟩
abbrev s_l_take : Stmt := top 21
theorem sc_l_take : FnScope ["_law_pen_here", "_law_many", "_law_script", "_law_at", "_law_left", "_law_cell", "_law_number"] ["_law_pen_here", "_law_many"] (defScope s_l_take) := ⟨rfl, rfl, rfl, by decide +kernel, rfl, by decide +kernel, by decide +kernel⟩
abbrev s_l_whole : Stmt := top 22
theorem sc_l_whole : FnScope ["_law_thing"] ["_law_thing"] (defScope s_l_whole) := ⟨rfl, rfl, rfl, by decide +kernel, rfl, by decide +kernel, by decide +kernel⟩
abbrev s_l_part : Stmt := top 23
theorem sc_l_part : FnScope ["_law_things_by", "_law_thing", "_law_shift", "_law_sign"] ["_law_things_by", "_law_thing", "_law_shift", "_law_sign"] (defScope s_l_part) := ⟨rfl, rfl, rfl, by decide +kernel, rfl, by decide +kernel, by decide +kernel⟩
abbrev s_l_come : Stmt := top 24
theorem sc_l_come : FnScope ["_law_things_by", "_law_deed", "_law_first", "_law_second"] ["_law_things_by", "_law_deed"] (defScope s_l_come) := ⟨rfl, rfl, rfl, by decide +kernel, rfl, by decide +kernel, by decide +kernel⟩
abbrev s_l_goal : Stmt := top 25
theorem sc_l_goal : FnScope ["_law_things_by", "_law_goal_here"] ["_law_things_by", "_law_goal_here"] (defScope s_l_goal) := ⟨rfl, rfl, rfl, by decide +kernel, rfl, by decide +kernel, by decide +kernel⟩
abbrev s_l_outs : Stmt := top 26
theorem sc_l_outs : FnScope ["_law_web_here", "_law_ins", "_law_things_by", "_law_deed", "_law_goals"] ["_law_web_here", "_law_ins"] (defScope s_l_outs) := ⟨rfl, rfl, rfl, by decide +kernel, rfl, by decide +kernel, by decide +kernel⟩
abbrev s_l_up : Stmt := top 27
theorem sc_l_up : FnScope ["_law_pen_here"] ["_law_pen_here"] (defScope s_l_up) := ⟨rfl, rfl, rfl, by decide +kernel, rfl, by decide +kernel, by decide +kernel⟩
abbrev s_l_web : Stmt := top 28
theorem sc_l_web : FnScope ["_law_pen_here", "_law_ins", "_law_deeds", "_law_k", "_law_a", "_law_b", "_law_goals", "_law_share", "_law_thing", "_law_goal_here"] ["_law_pen_here"] (defScope s_l_web) := ⟨rfl, rfl, rfl, by decide +kernel, rfl, by decide +kernel, by decide +kernel⟩
abbrev s_l_most : Stmt := top 29
theorem sc_l_most : FnScope ["_law_web_here", "_law_ins", "_law_deeds", "_law_goals", "_law_met", "_law_thing", "_law_shift", "_law_sign", "_law_k", "_law_gone_to"] ["_law_web_here"] (defScope s_l_most) := ⟨rfl, rfl, rfl, by decide +kernel, rfl, by decide +kernel, by decide +kernel⟩
abbrev s_l_right : Stmt := top 30
theorem sc_l_right : FnScope ["_law_web_here", "_law_found", "_law_due", "_law_told"] ["_law_web_here", "_law_found"] (defScope s_l_right) := ⟨rfl, rfl, rfl, by decide +kernel, rfl, by decide +kernel, by decide +kernel⟩
abbrev s_law : Stmt := top 31
theorem sc_law : FnScope ["_law_script", "_law_pen_here", "_law_turn", "_law_web_here", "_law_handed", "_law_found", "_law_kept"] ["_law_script"] (defScope s_law) := ⟨rfl, rfl, rfl, by decide +kernel, rfl, by decide +kernel, by decide +kernel⟩
structure Bl (mg : Str → Option Value) : Prop where
  abs : mg "abs" = none
  bool : mg "bool" = none
  enumerate : mg "enumerate" = none
  int : mg "int" = none
  isinstance : mg "isinstance" = none
  len : mg "len" = none
  list : mg "list" = none
  range : mg "range" = none
  reversed : mg "reversed" = none
  str : mg "str" = none
  tuple : mg "tuple" = none
  zip : mg "zip" = none
structure Txt (K : PySem.W.Frag) (mg : Str → Option Value) : Prop where
  bl : Bl mg
  t_second_sign : ∃ (f : Addr) (fd : FuncData), Fun K "second_sign" "second_sign" s_second_sign f fd ∧ mg "second_sign" = some (.ref f) ∧ Binds K fd ["deed"] []
  t_arrows : ∃ (f : Addr) (fd : FuncData), Fun K "arrows" "arrows" s_arrows f fd ∧ mg "arrows" = some (.ref f) ∧ Binds K fd ["web"] []
  t_deed_arrows : ∃ (f : Addr) (fd : FuncData), Fun K "deed_arrows" "deed_arrows" s_deed_arrows f fd ∧ mg "deed_arrows" = some (.ref f) ∧ Binds K fd ["web"] []
  t_out_arrows : ∃ (f : Addr) (fd : FuncData), Fun K "out_arrows" "out_arrows" s_out_arrows f fd ∧ mg "out_arrows" = some (.ref f) ∧ Binds K fd ["web"] []
  t_thing_count : ∃ (f : Addr) (fd : FuncData), Fun K "thing_count" "thing_count" s_thing_count f fd ∧ mg "thing_count" = some (.ref f) ∧ Binds K fd ["web"] []
  t_moved : ∃ (f : Addr) (fd : FuncData), Fun K "moved" "moved" s_moved f fd ∧ mg "moved" = some (.ref f) ∧ Binds K fd ["part", "shift", "sign"] []
  t_deed_of : ∃ (f : Addr) (fd : FuncData), Fun K "deed_of" "deed_of" s_deed_of f fd ∧ mg "deed_of" = some (.ref f) ∧ Binds K fd ["one", "other"] []
  t_sign_of : ∃ (f : Addr) (fd : FuncData), Fun K "sign_of" "sign_of" s_sign_of f fd ∧ mg "sign_of" = some (.ref f) ∧ Binds K fd ["one", "other"] []
  t_add_sum : ∃ (f : Addr) (fd : FuncData), Fun K "add_sum" "add_sum" s_add_sum f fd ∧ mg "add_sum" = some (.ref f) ∧ Binds K fd ["ins", "deeds", "one", "other"] []
  t_turned : ∃ (f : Addr) (fd : FuncData), Fun K "turned" "turned" s_turned f fd ∧ mg "turned" = some (.ref f) ∧ Binds K fd ["web"] []
  t_refuse_down : ∃ (f : Addr) (fd : FuncData), Fun K "refuse_down" "refuse_down" s_refuse_down f fd ∧ mg "refuse_down" = some (.ref f) ∧ Binds K fd ["web"] []
  t_l_pen : ∃ (f : Addr) (fd : FuncData), Fun K "_law_pen" "_law_pen" s_l_pen f fd ∧ mg "_law_pen" = some (.ref f) ∧ Binds K fd ["_law_script"] []
  t_l_take : ∃ (f : Addr) (fd : FuncData), Fun K "_law_take" "_law_take" s_l_take f fd ∧ mg "_law_take" = some (.ref f) ∧ Binds K fd ["_law_pen_here", "_law_many"] []
  t_l_whole : ∃ (f : Addr) (fd : FuncData), Fun K "_law_whole" "_law_whole" s_l_whole f fd ∧ mg "_law_whole" = some (.ref f) ∧ Binds K fd ["_law_thing"] []
  t_l_part : ∃ (f : Addr) (fd : FuncData), Fun K "_law_part" "_law_part" s_l_part f fd ∧ mg "_law_part" = some (.ref f) ∧ Binds K fd ["_law_things_by", "_law_thing", "_law_shift", "_law_sign"] []
  t_l_come : ∃ (f : Addr) (fd : FuncData), Fun K "_law_come" "_law_come" s_l_come f fd ∧ mg "_law_come" = some (.ref f) ∧ Binds K fd ["_law_things_by", "_law_deed"] []
  t_l_goal : ∃ (f : Addr) (fd : FuncData), Fun K "_law_goal" "_law_goal" s_l_goal f fd ∧ mg "_law_goal" = some (.ref f) ∧ Binds K fd ["_law_things_by", "_law_goal_here"] []
  t_l_outs : ∃ (f : Addr) (fd : FuncData), Fun K "_law_outs" "_law_outs" s_l_outs f fd ∧ mg "_law_outs" = some (.ref f) ∧ Binds K fd ["_law_web_here", "_law_ins"] []
  t_l_up : ∃ (f : Addr) (fd : FuncData), Fun K "_law_up" "_law_up" s_l_up f fd ∧ mg "_law_up" = some (.ref f) ∧ Binds K fd ["_law_pen_here"] []
  t_l_web : ∃ (f : Addr) (fd : FuncData), Fun K "_law_web" "_law_web" s_l_web f fd ∧ mg "_law_web" = some (.ref f) ∧ Binds K fd ["_law_pen_here"] []
  t_l_most : ∃ (f : Addr) (fd : FuncData), Fun K "_law_most" "_law_most" s_l_most f fd ∧ mg "_law_most" = some (.ref f) ∧ Binds K fd ["_law_web_here"] []
  t_l_right : ∃ (f : Addr) (fd : FuncData), Fun K "_law_right" "_law_right" s_l_right f fd ∧ mg "_law_right" = some (.ref f) ∧ Binds K fd ["_law_web_here", "_law_found"] []
  t_law : ∃ (f : Addr) (fd : FuncData), Fun K "law" "law" s_law f fd ∧ mg "law" = some (.ref f) ∧ Binds K fd ["_law_script"] []
  c_NO_OUT : ∃ t : Addr, mg "NO_OUT" = some (.ref t) ∧ CT0 K t
local macro_rules | `(tactic| walk_at "WP") => `(tactic| (first | (dsimp only [w_gLst, w_forE, w_compE, w_compZ, w_for3, w_gTupK, w_ixT, w_eqS, w_aug, w_ipI, w_dnK, w_maxD, w_sl, w_noPart, w_part, w_slL, w_var, w_C, w_op, w_un, w_rI, w_rI0, w_rU, w_eqI, w_neI, w_eqB, w_neB, w_seq, w_next, w_break, w_cont, w_ifS, w_ret, w_retN, w_drop, w_asg, w_gName, w_gSub, w_test, w_B, w_and, w_or, w_not, w_andV, w_orV, w_notV, w_if, w_call, w_nil, w_cons, w_CB, w_lst, w_tup, w_isN, w_notN, w_chain, w_for1, w_for2b, w_On2, w_forL, w_forT, w_forV, w_compL, w_compT, w_comp1, w_comp2b, w_yes, w_bm, w_bm0, w_rBits, w_tyInt, w_gTupM, w_gCons, w_gNil, w_dgS, w_dgI, w_sDP, w_dpS, w_dpI, w_dII, w_disp, tPairs, pen_s, pen_a, pen_l, pen_len, pen_pa, pen_pl, HO.dK.injEq, w_append, List.getElem?_cons_zero, List.getElem?_cons_succ, List.set_cons_zero, List.set_cons_succ, Option.some.injEq, V.int.injEq, V.bl.injEq, V.ref.injEq, V.str.injEq, exists_eq_left', exists_eq_left, List.append_nil, List.cons.injEq, and_true, true_and, exists_and_left, decide_eq_true_eq, Bool.not_eq_true', decide_eq_false_iff_not, Bool.not_true, Bool.not_false, w_ixM, w_ixU, w_ixL, w_setL, w_cxK, w_isI_ii, w_isI_ib, w_isI_bi, w_isI_bb, w_isI_ni, w_isI_nb, w_isI_si, w_isI_sb, sl_0, sl_1, sl_2, sl_3, sl_4, sl_5, sl_6, sl_7, sl_8, CPowB, w_shl1, at_0, at_1, at_2, at_3, ixN_0, ixN_1, ixN_2, upd_same, HO.lst.injEq, HO.tup.injEq, Int.reduceToNat, Int.reducePow, Int.reduceNeg, Int.reduceLT, Int.reduceLE, Int.reduceMod, Int.reduceMul, Int.reduceAdd, Int.reduceSub, Int.reduceDiv, Int.reduceEq, ite_true, ite_false, if_true, if_false, Bool.true_eq_false, Bool.false_eq_true, List.length_cons, List.length_nil, reduceCtorEq, false_and, and_false, not_false_eq_true, not_true_eq_false, exists_false, false_or, or_false, w_pop, w_extend, w_reverse, w_clear, w_cat, w_LZ, w_LR, w_forD, w_compZ2]; try simp only [w_gLst, w_forE, w_compE, w_compZ, w_for3, w_gTupK, w_ixT, w_eqS, w_aug, w_ipI, w_dnK, w_maxD, w_sl, w_noPart, w_part, w_slL, w_var, w_C, w_op, w_un, w_rI, w_rI0, w_rU, w_eqI, w_neI, w_eqB, w_neB, w_seq, w_next, w_break, w_cont, w_ifS, w_ret, w_retN, w_drop, w_asg, w_gName, w_gSub, w_test, w_B, w_and, w_or, w_not, w_andV, w_orV, w_notV, w_if, w_call, w_nil, w_cons, w_CB, w_lst, w_tup, w_isN, w_notN, w_chain, w_for1, w_for2b, w_On2, w_forL, w_forT, w_forV, w_compL, w_compT, w_comp1, w_comp2b, w_yes, w_bm, w_bm0, w_rBits, w_tyInt, w_gTupM, w_gCons, w_gNil, w_dgS, w_dgI, w_sDP, w_dpS, w_dpI, w_dII, w_disp, tPairs, pen_s, pen_a, pen_l, pen_len, pen_pa, pen_pl, HO.dK.injEq, w_append, List.getElem?_cons_zero, List.getElem?_cons_succ, List.set_cons_zero, List.set_cons_succ, Option.some.injEq, V.int.injEq, V.bl.injEq, V.ref.injEq, V.str.injEq, exists_eq_left', exists_eq_left, List.append_nil, List.cons.injEq, and_true, true_and, exists_and_left, decide_eq_true_eq, Bool.not_eq_true', decide_eq_false_iff_not, Bool.not_true, Bool.not_false, w_ixM, w_ixU, w_ixL, w_setL, w_cxK, w_isI_ii, w_isI_ib, w_isI_bi, w_isI_bb, w_isI_ni, w_isI_nb, w_isI_si, w_isI_sb, sl_0, sl_1, sl_2, sl_3, sl_4, sl_5, sl_6, sl_7, sl_8, CPowB, w_shl1, at_0, at_1, at_2, at_3, ixN_0, ixN_1, ixN_2, upd_same, HO.lst.injEq, HO.tup.injEq, Int.reduceToNat, Int.reducePow, Int.reduceNeg, Int.reduceLT, Int.reduceLE, Int.reduceMod, Int.reduceMul, Int.reduceAdd, Int.reduceSub, Int.reduceDiv, Int.reduceEq, ite_true, ite_false, if_true, if_false, Bool.true_eq_false, Bool.false_eq_true, List.length_cons, List.length_nil, reduceCtorEq, false_and, and_false, not_false_eq_true, not_true_eq_false, exists_false, false_or, or_false, w_pop, w_extend, w_reverse, w_clear, w_cat, w_LZ, w_LR, w_forD, w_compZ2]) | simp only [w_gLst, w_forE, w_compE, w_compZ, w_for3, w_gTupK, w_ixT, w_eqS, w_aug, w_ipI, w_dnK, w_maxD, w_sl, w_noPart, w_part, w_slL, w_var, w_C, w_op, w_un, w_rI, w_rI0, w_rU, w_eqI, w_neI, w_eqB, w_neB, w_seq, w_next, w_break, w_cont, w_ifS, w_ret, w_retN, w_drop, w_asg, w_gName, w_gSub, w_test, w_B, w_and, w_or, w_not, w_andV, w_orV, w_notV, w_if, w_call, w_nil, w_cons, w_CB, w_lst, w_tup, w_isN, w_notN, w_chain, w_for1, w_for2b, w_On2, w_forL, w_forT, w_forV, w_compL, w_compT, w_comp1, w_comp2b, w_yes, w_bm, w_bm0, w_rBits, w_tyInt, w_gTupM, w_gCons, w_gNil, w_dgS, w_dgI, w_sDP, w_dpS, w_dpI, w_dII, w_disp, tPairs, pen_s, pen_a, pen_l, pen_len, pen_pa, pen_pl, HO.dK.injEq, w_append, List.getElem?_cons_zero, List.getElem?_cons_succ, List.set_cons_zero, List.set_cons_succ, Option.some.injEq, V.int.injEq, V.bl.injEq, V.ref.injEq, V.str.injEq, exists_eq_left', exists_eq_left, List.append_nil, List.cons.injEq, and_true, true_and, exists_and_left, decide_eq_true_eq, Bool.not_eq_true', decide_eq_false_iff_not, Bool.not_true, Bool.not_false, w_ixM, w_ixU, w_ixL, w_setL, w_cxK, w_isI_ii, w_isI_ib, w_isI_bi, w_isI_bb, w_isI_ni, w_isI_nb, w_isI_si, w_isI_sb, sl_0, sl_1, sl_2, sl_3, sl_4, sl_5, sl_6, sl_7, sl_8, CPowB, w_shl1, at_0, at_1, at_2, at_3, ixN_0, ixN_1, ixN_2, upd_same, HO.lst.injEq, HO.tup.injEq, Int.reduceToNat, Int.reducePow, Int.reduceNeg, Int.reduceLT, Int.reduceLE, Int.reduceMod, Int.reduceMul, Int.reduceAdd, Int.reduceSub, Int.reduceDiv, Int.reduceEq, ite_true, ite_false, if_true, if_false, Bool.true_eq_false, Bool.false_eq_true, List.length_cons, List.length_nil, reduceCtorEq, false_and, and_false, not_false_eq_true, not_true_eq_false, exists_false, false_or, or_false, w_pop, w_extend, w_reverse, w_clear, w_cat, w_LZ, w_LR, w_forD, w_compZ2]))
section
variable {P : Program} {w : World} {K : PySem.W.Frag} {mg : Str → Option Value} {base : Heap}
theorem ok_second (T : Txt K mg) : Cal P w K mg base 1 "second_sign" ["deed"] spSnd := by
  have B := T.bl
  refine mkCal T.t_second_sign sc_second_sign (fun vs H Q E h => ?_) (fun f cdv A outer s H vs Q E hr h => ?_)
  · obtain ⟨x, d, rfl, _⟩ := h
    rfl
  obtain ⟨x, d, rfl, hx, q⟩ := h
  refine ⟨_, ((@pss_one _ _ _ (@ps_ret _ _ _ _ (@pe_ifExp _ _ _ _ _ _ _ _ (@pt_cmpR _ _ _ _ _ _ _ _ op_eq (@pe_ix _ _ _ _ _ _ _ ix_U (pv 0) pe_int (fun _ _ => rfl)) pe_str (@nomark _ _ (by decide) (by decide))) (@pe_un _ _ _ _ _ _ un_neg pe_int) pe_int)))), ?_⟩
  rw [show start ["deed"] [.ref x] = [some (.ref x)] from rfl]
  unfold wTup at hx
  (iterate 5 ((try (walk_at "WP")); (try (simp only [hx, Option.some.injEq, HO.tup.injEq, HO.lst.injEq, HO.dK.injEq, exists_eq_left', exists_eq_left])))); (try (walk_at "WP"))
  unfold sgW at q
  by_cases z : d.w = Str.ofString "less"
  · rw [if_pos z] at q ⊢
    exact q
  · rw [if_neg z] at q ⊢
    exact q
end

section
variable {P : Program} {w : World} {K : PySem.W.Frag} {mg : Str → Option Value} {base : Heap}
theorem ok_countK (T : Txt K mg) : Cal P w K mg base 1 "thing_count" ["web"] (spCntK K) := by
  have B := T.bl
  refine mkCal T.t_thing_count sc_thing_count (fun vs H Q E h => ?_) (fun f cdv A outer s H vs Q E hr h => ?_)
  · obtain ⟨x, _, _, _, _, _, _, _, rfl, _⟩ := h
    rfl
  obtain ⟨x, dl, gl, ins, us, ds, os, gs, rfl, W, q⟩ := h
  refine ⟨_, ((@pss_one _ _ _ (@ps_ret _ _ _ _ (@pe_op _ _ _ _ _ _ _ _ op_add (@pe_ix _ _ _ _ _ _ _ ix_U (pv 0) pe_int (fun _ _ => rfl)) (@pe_callB _ _ _ _ _ _ _ _ _ call_lenM rfl B.len bo_len (@pa_cons _ _ _ _ _ (@pe_ix _ _ _ _ _ _ _ ix_U (pv 0) pe_int (fun _ _ => rfl)) pa_nil (by rfl)) (by decide) (by decide) (by rfl) (by rfl)))))), ?_⟩
  rw [show start ["web"] [.ref x] = [some (.ref x)] from rfl]
  have h1 := W.tup
  have h2 := W.dll
  (iterate 5 ((try (walk_at "WP")); (try (simp only [h1, h2, Option.some.injEq, HO.tup.injEq, HO.lst.injEq, HO.dK.injEq, exists_eq_left', exists_eq_left])))); (try (walk_at "WP"))
  rw [W.hds.len]
  exact q
end

section
variable {P : Program} {w : World} {K : PySem.W.Frag} {mg : Str → Option Value} {base : Heap}
theorem ok_darrK (T : Txt K mg) : Cal P w K mg base 2 "deed_arrows" ["web"] (spDArrK K) := by
  have B := T.bl
  have C_second_sign := ok_second (P := P) (w := w) (base := base) T
  refine mkCal T.t_deed_arrows sc_deed_arrows (fun vs H Q E h => ?_) (fun f cdv A outer s H vs Q E hr h => ?_)
  · obtain ⟨x, _, _, _, _, _, _, _, rfl, _⟩ := h
    rfl
  obtain ⟨x, dl, gl, ins, us, ds, os, gs, rfl, W, hlen, q⟩ := h
  refine ⟨_, ((@pss_cons _ _ _ _ _ (@ps_set _ _ (1) _ _ _ _ sc_deed_arrows.nd rfl (by first | exact Or.inl rfl | exact Or.inr rfl) (@pe_lst _ _ _ _ pa_nil) (by rfl) (by first | exact .inl rfl | exact .inr rfl | assumption)) (@pss_cons _ _ _ _ _ (@ps_for _ _ _ _ _ _ _ _ PassesOwn.never rfl (@pi_enum _ _ _ _ _ _ _ _ rfl B.enumerate (@pa_cons _ _ _ _ _ (@pe_ix _ _ _ _ _ _ _ ix_U (pv 0) pe_int (fun _ _ => rfl)) pa_nil (by rfl)) (by rfl)) (@pg_tupM _ _ _ _ _ 2 rfl (@pgs_cons _ _ _ _ _ (@pg_name _ _ (2) _ sc_deed_arrows.nd rfl (by first | exact Or.inl rfl | exact Or.inr rfl) (by first | exact .inl rfl | exact .inr rfl | assumption)) (@pgs_cons _ _ _ _ _ (@pg_name _ _ (3) _ sc_deed_arrows.nd rfl (by first | exact Or.inl rfl | exact Or.inr rfl) (by first | exact .inl rfl | exact .inr rfl | assumption)) pgs_nil (by rfl)) (by rfl)) (by rfl) (by rfl)) (@pss_cons _ _ _ _ _ (@ps_set _ _ (4) _ _ _ _ sc_deed_arrows.nd rfl (by first | exact Or.inl rfl | exact Or.inr rfl) (@pe_op _ _ _ _ _ _ _ _ op_add (@pe_ix _ _ _ _ _ _ _ ix_U (pv 0) pe_int (fun _ _ => rfl)) (pv 2)) (by rfl) (by first | exact .inl rfl | exact .inr rfl | assumption)) (@pss_cons _ _ _ _ _ (@ps_expr _ _ _ _ (@pe_bm _ _ _ _ _ _ _ _ _ _ _ _ PySem.F.plainAttrs_list PySem.F.slot_list_append PySem.F.type_list_append mt_append (pv 1) (@pa_cons _ _ _ _ _ (@pe_tup _ _ _ _ _ (@pa_cons _ _ _ _ _ (@pe_ix _ _ _ _ _ _ _ ix_U (pv 3) pe_int (fun _ _ => rfl)) (@pa_cons _ _ _ _ _ (pv 4) (@pa_cons _ _ _ _ _ (@pe_ix _ _ _ _ _ _ _ ix_U (pv 3) pe_int (fun _ _ => rfl)) (@pa_cons _ _ _ _ _ pe_int pa_nil (by rfl)) (by rfl)) (by rfl)) (by rfl))) pa_nil (by rfl)) (by rfl) (by rfl) (by rfl) (by rfl) (by rfl)) (by rfl)) (@pss_one _ _ _ (@ps_expr _ _ _ _ (@pe_bm _ _ _ _ _ _ _ _ _ _ _ _ PySem.F.plainAttrs_list PySem.F.slot_list_append PySem.F.type_list_append mt_append (pv 1) (@pa_cons _ _ _ _ _ (@pe_tup _ _ _ _ _ (@pa_cons _ _ _ _ _ (@pe_ix _ _ _ _ _ _ _ ix_U (pv 3) pe_int (fun _ _ => rfl)) (@pa_cons _ _ _ _ _ (pv 4) (@pa_cons _ _ _ _ _ (@pe_ix _ _ _ _ _ _ _ ix_U (pv 3) pe_int (fun _ _ => rfl)) (@pa_cons _ _ _ _ _ (@pe_cal _ _ _ _ _ _ _ _ _ _ C_second_sign hr rfl (@pa_cons _ _ _ _ _ (pv 3) pa_nil (by rfl)) (by decide) (by rfl) (by rfl)) pa_nil (by rfl)) (by rfl)) (by rfl)) (by rfl))) pa_nil (by rfl)) (by rfl) (by rfl) (by rfl) (by rfl) (by rfl)) (by rfl))))) (by intro _ ; rfl)) (@pss_one _ _ _ (@ps_ret _ _ _ _ (pv 1)))))), ?_⟩
  rw [show start ["web", "told", "place", "deed", "thing"] [.ref x] = [some (.ref x), none, none, none, none] from rfl]
  try walk_at "WP"
  intro r hr0
  have sr := same_new hr0 (.lst [])
  have W1 := W.same sr
  have h1 := W1.tup
  (iterate 5 ((try (walk_at "WP")); (try (simp only [h1, Option.some.injEq, HO.tup.injEq, HO.lst.injEq, HO.dK.injEq, exists_eq_left', exists_eq_left])))); (try (walk_at "WP"))
  refine ⟨_, SqL.of W1.dll, ?_⟩
  refine forE (xs := us) (fun i σ H1 => ∃ (o2 o3 o4 : Option V) (ws : List V), σ = [some (.ref x), some (.ref r), o2, o3, o4] ∧ Same H H1 ∧ H1 r = some (.lst ws) ∧ HTs aTup H1 ws (arrF ins 0 (ds.take i))) ⟨none, none, none, [], rfl, sr, upd_same, hts_nil⟩ ?_ ?_ ?_
  · rintro i σ H1 _ ⟨_, _, _, _, _, s1, _⟩
    exact SqL.of (s1 _ _ W.dll)
  · rintro i v t σ H1 N hv ht ⟨o2, o3, o4, ws, rfl, s1, hr1, ha⟩ hN
    have hi : i < ds.length := by rw [← W.hds.len]; exact (List.getElem?_eq_some_iff.mp hv).1
    obtain ⟨y, hy1, hy2⟩ := W.hds.at_ i _ (List.getElem?_eq_getElem hi)
    have hdi : ds[i]? = some ds[i] := List.getElem?_eq_getElem hi
    generalize ds[i] = d at hy2 hdi
    rw [hv] at hy1
    cases hy1
    have st := same_new ht (.tup [V.int (i : Int), .ref y])
    have W2 := (W.same s1).same st
    have h2 := W2.tup
    have hy3 : upd H1 t (.tup [V.int (i : Int), .ref y]) y = some (.tup (wTup d)) := st _ _ (s1 _ _ hy2)
    have hr2 := st _ _ hr1
    have ha2 := ha.same st
    have s2 := s1.trans st
    have h9 : upd H1 t (.tup [V.int (i : Int), .ref y]) t = some (.tup [V.int (i : Int), .ref y]) := upd_same
    generalize upd H1 t (.tup [V.int (i : Int), .ref y]) = H2 at *
    have hy3' := hy3
    unfold wTup at hy3'
    (iterate 5 ((try (walk_at "WP")); (try (simp only [h9, h2, hy3', Option.some.injEq, HO.tup.injEq, HO.lst.injEq, HO.dK.injEq, exists_eq_left', exists_eq_left])))); (try (walk_at "WP"))
    have hwl : ws.length = 2 * i := by rw [ha2.len, arrF_len, List.length_take]; omega
    refine ⟨ty_list hr2, fun p1 hp1 => ?_⟩
    have s3 := same_new hp1 (.tup [V.int (d.a : Int), V.int ((ins : Int) + (i : Int)), V.int d.s, V.int 1])
    have n1 : r ≠ p1 := ne_of_none hr2 hp1
    refine ⟨ws, by rw [upd_ne n1]; exact hr2, Nat.lt_of_lt_of_le (by omega : ws.length < 1000) (le_size (by decide)), ty_list upd_same, ?_⟩
    have hr3 := s3 _ _ hr2
    have ha3 := (ha2.same s3).chgL hr3 (Chg.upd (.lst (ws ++ [.ref p1])))
    have hp1t : (upd (upd H2 p1 (.tup [V.int (d.a : Int), V.int ((ins : Int) + (i : Int)), V.int d.s, V.int 1])) r (.lst (ws ++ [.ref p1]))) p1 = some (.tup (aTup ⟨d.a, ins + i, d.s, 1⟩)) := by
      rw [upd_ne n1.symm, upd_same]
      unfold aTup
      rw [show ((ins + i : Nat) : Int) = (ins : Int) + (i : Int) by omega]
    have ha4 := ha3.snoc (x := (⟨d.a, ins + i, d.s, 1⟩ : Ar)) hp1t
    have hy4 : (upd (upd H2 p1 (.tup [V.int (d.a : Int), V.int ((ins : Int) + (i : Int)), V.int d.s, V.int 1])) r (.lst (ws ++ [.ref p1]))) y = some (.tup (wTup d)) := by
      rw [upd_ne (ne_of hy3 hr2 (by intro z; cases z))]
      exact s3 _ _ hy3
    have s4 : Same H (upd (upd H2 p1 (.tup [V.int (d.a : Int), V.int ((ins : Int) + (i : Int)), V.int d.s, V.int 1])) r (.lst (ws ++ [.ref p1]))) := same_upd hr0 (s2.trans s3)
    have hr4 : (upd (upd H2 p1 (.tup [V.int (d.a : Int), V.int ((ins : Int) + (i : Int)), V.int d.s, V.int 1])) r (.lst (ws ++ [.ref p1]))) r = some (.lst (ws ++ [.ref p1])) := upd_same
    generalize upd (upd H2 p1 (.tup [V.int (d.a : Int), V.int ((ins : Int) + (i : Int)), V.int d.s, V.int 1])) r (.lst (ws ++ [.ref p1])) = H3 at s4 hr4 hy4 ha4 ⊢
    refine ⟨_, hy4, _, rfl, _, hy4, _, rfl, y, d, rfl, hy4, fun p2 hp2 => ?_⟩
    have s5 := same_new hp2 (.tup [V.int (d.b : Int), V.int ((ins : Int) + (i : Int)), V.int d.t, V.int (sgW d.w)])
    have n2 : r ≠ p2 := ne_of_none hr4 hp2
    refine ⟨_, by rw [upd_ne n2]; exact hr4, Nat.lt_of_lt_of_le (by simp; omega : (ws ++ [V.ref p1]).length < 1000) (le_size (by decide)), ?_⟩
    have hr5 := s5 _ _ hr4
    have hp2t : (upd (upd H3 p2 (.tup [V.int (d.b : Int), V.int ((ins : Int) + (i : Int)), V.int d.t, V.int (sgW d.w)])) r (.lst (ws ++ [.ref p1] ++ [.ref p2]))) p2 = some (.tup (aTup ⟨d.b, ins + i, d.t, sgW d.w⟩)) := by
      rw [upd_ne n2.symm, upd_same]
      unfold aTup
      rw [show ((ins + i : Nat) : Int) = (ins : Int) + (i : Int) by omega]
    have ha5 := ((ha4.same s5).chgL hr5 (Chg.upd (.lst (ws ++ [.ref p1] ++ [.ref p2])))).snoc (x := (⟨d.b, ins + i, d.t, sgW d.w⟩ : Ar)) hp2t
    refine hN _ _ ⟨_, _, _, _, rfl, same_upd hr0 (s4.trans s5), upd_same, ?_⟩
    have tk : ds.take (i + 1) = ds.take i ++ [d] := by rw [List.take_add_one, hdi]; rfl
    rw [tk, arrF_app, List.length_take, Nat.min_eq_left (by omega), Nat.zero_add, show arrF ins i [d] = [(⟨d.a, ins + i, d.s, 1⟩ : Ar)] ++ [(⟨d.b, ins + i, d.t, sgW d.w⟩ : Ar)] from rfl, ← List.append_assoc]
    exact ha5
  · rintro σ H1 ⟨o2, o3, o4, ws, rfl, s1, hr1, ha⟩
    try walk_at "WP"
    rw [W.hds.len, List.take_length] at ha
    exact q r ws H1 hr0 s1 hr1 ha
end

section
variable {P : Program} {w : World} {K : PySem.W.Frag} {mg : Str → Option Value} {base : Heap}
theorem ok_oarrK (T : Txt K mg) : Cal P w K mg base 2 "out_arrows" ["web"] (spOArrK K) := by
  have B := T.bl
  have C_thing_count := ok_countK (P := P) (w := w) (base := base) T
  refine mkCal T.t_out_arrows sc_out_arrows (fun vs H Q E h => ?_) (fun f cdv A outer s H vs Q E hr h => ?_)
  · obtain ⟨x, _, _, _, _, _, _, _, rfl, _⟩ := h
    rfl
  obtain ⟨x, dl, gl, ins, us, ds, os, gs, rfl, W, hlen, q⟩ := h
  refine ⟨_, ((@pss_cons _ _ _ _ _ (@ps_set _ _ (1) _ _ _ _ sc_out_arrows.nd rfl (by first | exact Or.inl rfl | exact Or.inr rfl) (@pe_cal _ _ _ _ _ _ _ _ _ _ C_thing_count hr rfl (@pa_cons _ _ _ _ _ (pv 0) pa_nil (by rfl)) (by decide) (by rfl) (by rfl)) (by rfl) (by first | exact .inl rfl | exact .inr rfl | assumption)) (@pss_one _ _ _ (@ps_ret _ _ _ _ (@pe_comp0 _ _ _ _ _ _ _ _ (["place", "out", "behind"]) (2) ([1]) _ _ _ rfl (@pi_enum _ _ _ _ _ _ _ _ rfl B.enumerate (@pa_cons _ _ _ _ _ (@pe_ix _ _ _ _ _ _ _ ix_U (pv 0) pe_int (fun _ _ => rfl)) pa_nil (by rfl)) (by rfl)) (fun nd C s H fp => ⟨(@pg_tupM _ _ _ _ _ 2 rfl (@pgs_cons _ _ _ _ _ (@pg_name _ _ (0) _ nd rfl (by first | exact Or.inl rfl | exact Or.inr rfl) (by first | exact .inl rfl | exact .inr rfl | assumption)) (@pgs_cons _ _ _ _ _ (@pg_name _ _ (1) _ nd rfl (by first | exact Or.inl rfl | exact Or.inr rfl) (by first | exact .inl rfl | exact .inr rfl | assumption)) pgs_nil (by rfl)) (by rfl)) (by rfl) (by rfl)), (@pn_one _ _ _ (@pt_cmpR _ _ _ _ _ _ _ _ op_ne (@pe_ix _ _ _ _ _ _ _ (@ix_tupK _ K (by rfl)) (pv 1) pe_int (fun _ _ => rfl)) pe_int (@nomark _ _ (by decide) (by decide)))), (@pe_tup _ _ _ _ _ (@pa_cons _ _ _ _ _ (@pe_ix _ _ _ _ _ _ _ (@ix_tupK _ K (by rfl)) (pv 1) pe_int (fun _ _ => rfl)) (@pa_cons _ _ _ _ _ (@pe_op _ _ _ _ _ _ _ _ op_add (pv 2) (pv 0)) (@pa_cons _ _ _ _ _ (@pe_ix _ _ _ _ _ _ _ (@ix_tupK _ K (by rfl)) (pv 1) pe_int (fun _ _ => rfl)) (@pa_cons _ _ _ _ _ (@pe_ix _ _ _ _ _ _ _ (@ix_tupK _ K (by rfl)) (pv 1) pe_int (fun _ _ => rfl)) pa_nil (by rfl)) (by rfl)) (by rfl)) (by rfl)))⟩) (by decide +kernel) (by first | rfl | decide +kernel) (by first | rfl | decide +kernel) rfl (fun _ => rfl)))))), ?_⟩
  rw [show start ["web", "behind"] [.ref x] = [some (.ref x), none] from rfl]
  try walk_at "WP"
  refine ⟨x, dl, gl, ins, us, ds, os, gs, rfl, W, ?_⟩
  have h1 := W.tup
  (iterate 5 ((try (walk_at "WP")); (try (simp only [h1, Option.some.injEq, HO.tup.injEq, HO.lst.injEq, HO.dK.injEq, exists_eq_left', exists_eq_left])))); (try (walk_at "WP"))
  refine ⟨_, SqL.of W.gll, ?_⟩
  have ol := W.hgs.len
  refine comp_any os.length (fun acc i ws H' => Same H H' ∧ H' acc = some (.lst ws) ∧ HTs aTup H' ws (oarr (ins + ds.length) 0 (gs.take i))) (le_size (by omega)) ?_ ?_ ?_ ?_ ?_ ?_
  · rintro acc i ws H' hi ⟨s', _, _⟩
    exact ⟨os, SqL.of (s' _ _ W.gll), hi⟩
  · rintro acc ws H' ⟨s', _, _⟩
    exact ⟨os, SqL.of (s' _ _ W.gll), Nat.le_refl _⟩
  · intro acc ha
    exact ⟨same_new ha _, upd_same, hts_nil⟩
  · rintro acc i ws H' ⟨s', ha, ht⟩
    refine ⟨ha, ?_⟩
    rw [ht.len]
    exact Nat.le_trans (oarr_len _ _ _) (by rw [List.length_take]; omega)
  · rintro acc i ws H' ts v H2 N hn hi ⟨s', ha, ht⟩ ⟨tt, u, rfl, htt, rfl, hu⟩ hts hN
    have hu := hu os (SqL.of (s' _ _ W.gll))
    have hi2 : i < gs.length := by omega
    obtain ⟨y, hy1, hy2⟩ := W.hgs.at_ i _ (List.getElem?_eq_getElem hi2)
    have hgi : gs[i]? = some gs[i] := List.getElem?_eq_getElem hi2
    generalize gs[i] = g at hy2 hgi
    rw [hu] at hy1
    cases hy1
    obtain ⟨t0, t1, rfl⟩ : ∃ t0 t1, ts = [t0, t1] := by
      match ts, hts with
      | [a, b], _ => exact ⟨a, b, rfl⟩
    have sT := same_new htt (.tup [V.int (i : Int), .ref y])
    have gT : (upd H' tt (.tup [V.int (i : Int), .ref y])) tt = some (.tup [V.int (i : Int), .ref y]) := upd_same
    have y2 := sT.seqT (s'.seqT hy2)
    unfold gTp at y2
    have s2 := s'.trans sT
    have ha2 := sT _ _ ha
    have ht2 := ht.same sT
    generalize upd H' tt (.tup [V.int (i : Int), .ref y]) = H3 at sT gT y2 s2 ha2 ht2 ⊢
    rw [show capV [1] [some (V.ref x), some (V.int ((ins : Int) + ((ds.length : Nat) : Int)))] = [some (V.int ((ins : Int) + ((ds.length : Nat) : Int)))] from rfl]
    rw [List.cons_append, List.cons_append, List.nil_append]
    (iterate 5 ((try (walk_at "WP")); (try (simp only [gT, Option.some.injEq, HO.tup.injEq, HO.lst.injEq, HO.dK.injEq, exists_eq_left', exists_eq_left])))); (try (walk_at "WP"))
    refine ⟨_, y2, _, rfl, ?_⟩
    (iterate 5 ((try (walk_at "WP")); (try (simp only [gT, Option.some.injEq, HO.tup.injEq, HO.lst.injEq, HO.dK.injEq, exists_eq_left', exists_eq_left])))); (try (walk_at "WP"))
    have tk : gs.take (i + 1) = gs.take i ++ [g] := by rw [List.take_add_one, hgi]; rfl
    have eo : oarr (ins + ds.length) 0 (gs.take (i + 1)) = oarr (ins + ds.length) 0 (gs.take i) ++ (if g.sg = 0 then [] else [(⟨g.th, ins + ds.length + i, g.sh, g.sg⟩ : Ar)]) := by
      rw [tk, oarr_app, List.length_take, Nat.min_eq_left (by omega), Nat.zero_add]
      show _ ++ ((if g.sg = 0 then [] else [_]) ++ []) = _
      rw [List.append_nil]
    refine ite2 (fun z => ?_) (fun z => ?_)
    · refine ⟨_, y2, _, rfl, ?_⟩
      try walk_at "WP"
      refine ⟨_, y2, _, rfl, _, y2, _, rfl, ?_⟩
      try walk_at "WP"
      intro r hr0
      have sr := same_new hr0 (.tup [V.int (g.th : Int), V.int ((ins : Int) + ((ds.length : Nat) : Int) + (i : Int)), V.int g.sh, V.int g.sg])
      have nra : acc ≠ r := ne_of_none ha2 hr0
      refine ⟨sr _ _ ha2, hN _ [_, _] _ rfl ⟨same_upd hn (s2.trans sr), upd_same, ?_⟩⟩
      rw [eo, if_neg z]
      refine ((ht2.same sr).chgL (sr _ _ ha2) (Chg.upd _)).snoc (x := (⟨g.th, ins + ds.length + i, g.sh, g.sg⟩ : Ar)) ?_
      rw [upd_ne nra.symm, upd_same]
      unfold aTup
      rw [show ((ins + ds.length + i : Nat) : Int) = (ins : Int) + ((ds.length : Nat) : Int) + (i : Int) by omega]
    · refine hN _ [_, _] _ rfl ⟨s2, ha2, ?_⟩
      rw [eo, if_pos (Decidable.not_not.mp z), List.append_nil]
      exact ht2
  · rintro acc ws H' hn ⟨s', ha, ht⟩
    rw [ol, List.take_length] at ht
    exact q acc ws H' hn s' ha ht
theorem ok_arrK (T : Txt K mg) : Cal P w K mg base 3 "arrows" ["web"] (spArrK K) := by
  have B := T.bl
  have C_deed_arrows := ok_darrK (P := P) (w := w) (base := base) T
  have C_out_arrows := ok_oarrK (P := P) (w := w) (base := base) T
  refine mkCal T.t_arrows sc_arrows (fun vs H Q E h => ?_) (fun f cdv A outer s H vs Q E hr h => ?_)
  · obtain ⟨x, _, _, _, _, _, _, _, rfl, _⟩ := h
    rfl
  obtain ⟨x, dl, gl, ins, us, ds, os, gs, rfl, W, hd, hg, q⟩ := h
  refine ⟨_, ((@pss_one _ _ _ (@ps_ret _ _ _ _ (@pe_op _ _ _ _ _ _ _ _ op_cat (@pe_cal _ _ _ _ _ _ _ _ _ _ C_deed_arrows hr rfl (@pa_cons _ _ _ _ _ (pv 0) pa_nil (by rfl)) (by decide) (by rfl) (by rfl)) (@pe_cal _ _ _ _ _ _ _ _ _ _ C_out_arrows hr rfl (@pa_cons _ _ _ _ _ (pv 0) pa_nil (by rfl)) (by decide) (by rfl) (by rfl)))))), ?_⟩
  rw [show start ["web"] [.ref x] = [some (.ref x)] from rfl]
  try walk_at "WP"
  refine ⟨x, dl, gl, ins, us, ds, os, gs, rfl, W, by omega, fun r1 w1 H1 n1 s1 h1 t1 => ?_⟩
  try walk_at "WP"
  refine ⟨x, dl, gl, ins, us, ds, os, gs, rfl, W.same s1, by omega, fun r2 w2 H2 n2 s2 h2 t2 => ?_⟩
  have h12 := s2 _ _ h1
  have l1 : w1.length = 2 * ds.length := by rw [t1.len, arrF_len]
  have l2 : w2.length ≤ gs.length := by rw [t2.len]; exact oarr_len _ _ _
  (iterate 5 ((try (walk_at "WP")); (try (simp only [h12, h2, Option.some.injEq, HO.tup.injEq, HO.lst.injEq, HO.dK.injEq, exists_eq_left', exists_eq_left])))); (try (walk_at "WP"))
  refine ⟨le_size (by omega), fun r hr0 => ?_⟩
  have sr := same_new hr0 (.lst (w1 ++ w2))
  have s12 := s1.trans s2
  exact q r (w1 ++ w2) _ (s12.free hr0) (s12.trans sr) upd_same (((t1.same s2).app t2).same sr)
end

section
variable {P : Program} {w : World} {K : PySem.W.Frag} {mg : Str → Option Value} {base : Heap}
theorem ok_refK (T : Txt K mg) : Cal P w K mg base 3 "refuse_down" ["web"] (spRefK K) := by
  have B := T.bl
  refine mkCal T.t_refuse_down sc_refuse_down (fun vs H Q E h => ?_) (fun f cdv A outer s H vs Q E hr h => ?_)
  · obtain ⟨_, _, _, _, _, _, _, _, rfl, _⟩ := h
    rfl
  obtain ⟨x, dl, gl, ins, us, ds, os, gs, rfl, W, dl6, gl6, hds, hgs, q⟩ := h
  refine ⟨_, ((@pss_mid _ _ _ _ _ (@ps_for _ _ _ _ _ _ _ _ PassesOwn.never rfl (@pi_enum _ _ _ _ _ _ _ _ rfl B.enumerate (@pa_cons _ _ _ _ _ (@pe_ix _ _ _ _ _ _ _ ix_U (pv 0) pe_int (fun _ _ => rfl)) pa_nil (by rfl)) (by rfl)) (@pg_tupM _ _ _ _ _ 2 rfl (@pgs_cons _ _ _ _ _ (@pg_name _ _ (1) _ sc_refuse_down.nd rfl (by first | exact Or.inl rfl | exact Or.inr rfl) (by first | exact .inl rfl | exact .inr rfl | assumption)) (@pgs_cons _ _ _ _ _ (@pg_name _ _ (2) _ sc_refuse_down.nd rfl (by first | exact Or.inl rfl | exact Or.inr rfl) (by first | exact .inl rfl | exact .inr rfl | assumption)) pgs_nil (by rfl)) (by rfl)) (by rfl) (by rfl)) (@pss_one _ _ _ (@ps_if _ _ _ _ _ _ _ _ (@PW.pt _ _ _ (@pw_or _ _ _ _ _ _ _ (@pt_cmpR _ _ _ _ _ _ _ _ op_lt (@pe_ix _ _ _ _ _ _ _ ix_U (pv 2) pe_int (fun _ _ => rfl)) pe_int (@nomark _ _ (by decide) (by decide))) (@pw_or1 _ _ _ _ (@pt_cmpR _ _ _ _ _ _ _ _ op_lt (@pe_ix _ _ _ _ _ _ _ ix_U (pv 2) pe_int (fun _ _ => rfl)) pe_int (@nomark _ _ (by decide) (by decide)))))) (@pss_one _ _ _ ps_never) pss_nil)) (by intro _ ; rfl)) (@pss_one _ _ _ (@ps_for _ _ _ _ _ _ _ _ PassesOwn.never rfl (@pi_enum _ _ _ _ _ _ _ _ rfl B.enumerate (@pa_cons _ _ _ _ _ (@pe_ix _ _ _ _ _ _ _ ix_U (pv 0) pe_int (fun _ _ => rfl)) pa_nil (by rfl)) (by rfl)) (@pg_tupM _ _ _ _ _ 2 rfl (@pgs_cons _ _ _ _ _ (@pg_name _ _ (1) _ sc_refuse_down.nd rfl (by first | exact Or.inl rfl | exact Or.inr rfl) (by first | exact .inl rfl | exact .inr rfl | assumption)) (@pgs_cons _ _ _ _ _ (@pg_name _ _ (3) _ sc_refuse_down.nd rfl (by first | exact Or.inl rfl | exact Or.inr rfl) (by first | exact .inl rfl | exact .inr rfl | assumption)) pgs_nil (by rfl)) (by rfl)) (by rfl) (by rfl)) (@pss_one _ _ _ (@ps_if _ _ _ _ _ _ _ _ (@pt_cmpR _ _ _ _ _ _ _ _ op_lt (@pe_ix _ _ _ _ _ _ _ ix_tup (pv 3) pe_int (fun _ _ => rfl)) pe_int (@nomark _ _ (by decide) (by decide))) (@pss_one _ _ _ ps_never) pss_nil)) (by intro _ ; rfl))))), ?_⟩
  rw [show start ["web", "place", "deed", "out"] [.ref x] = [some (.ref x), none, none, none] from rfl]
  have h1 := W.tup
  refine mid_of (fun σ H1 => ∃ (o1 o2 : Option V), σ = [some (.ref x), o1, o2, none] ∧ Same H H1) (fun N hN => ?_) ?_
  · (iterate 5 ((try (walk_at "WP")); (try (simp only [h1, Option.some.injEq, HO.tup.injEq, HO.lst.injEq, HO.dK.injEq, exists_eq_left', exists_eq_left])))); (try (walk_at "WP"))
    refine ⟨_, SqL.of W.dll, ?_⟩
    refine forE (xs := us) (fun i σ H1 => ∃ (o1 o2 : Option V), σ = [some (.ref x), o1, o2, none] ∧ Same H H1) ⟨_, _, rfl, (fun _ _ z => z)⟩ ?_ ?_ ?_
    · rintro i σ H1 _ ⟨_, _, _, s1⟩
      exact SqL.of (s1 _ _ W.dll)
    · rintro i v t σ H1 N2 hv ht ⟨o1, o2, rfl, s1⟩ hN2
      have hi : i < ds.length := by rw [← W.hds.len]; exact (List.getElem?_eq_some_iff.mp hv).1
      obtain ⟨y, hy1, hy2⟩ := W.hds.at_ i _ (List.getElem?_eq_getElem hi)
      have hdi : ds[i]? = some ds[i] := List.getElem?_eq_getElem hi
      generalize ds[i] = d at hy2 hdi
      rw [hv] at hy1
      cases hy1
      obtain ⟨k1, k2⟩ := hds d (List.mem_of_getElem? hdi)
      have st := same_new ht (.tup [V.int (i : Int), .ref y])
      have hy3 : upd H1 t (.tup [V.int (i : Int), .ref y]) y = some (.tup (wTup d)) := st _ _ (s1 _ _ hy2)
      have h9 : upd H1 t (.tup [V.int (i : Int), .ref y]) t = some (.tup [V.int (i : Int), .ref y]) := upd_same
      have s2 := s1.trans st
      generalize upd H1 t (.tup [V.int (i : Int), .ref y]) = H2 at hy3 h9 s2 ⊢
      unfold wTup at hy3
      (iterate 5 ((try (walk_at "WP")); (try (simp only [h9, Option.some.injEq, HO.tup.injEq, HO.lst.injEq, HO.dK.injEq, exists_eq_left', exists_eq_left])))); (try (walk_at "WP"))
      (iterate 5 ((try (walk_at "WP")); (try (simp only [hy3, Option.some.injEq, HO.tup.injEq, HO.lst.injEq, HO.dK.injEq, exists_eq_left', exists_eq_left])))); (try (walk_at "WP"))
      rw [if_neg (by omega)]
      refine ⟨_, rfl, ?_⟩
      try walk_at "WP"
      rw [if_neg (by omega)]
      exact hN2 _ _ ⟨_, _, rfl, s2⟩
    · rintro σ H1 ⟨o1, o2, rfl, s1⟩
      exact hN _ _ ⟨_, _, rfl, s1⟩
  · rintro σ H1 ⟨o1, o2, rfl, s1⟩
    have h2 := s1 _ _ h1
    (iterate 5 ((try (walk_at "WP")); (try (simp only [h2, Option.some.injEq, HO.tup.injEq, HO.lst.injEq, HO.dK.injEq, exists_eq_left', exists_eq_left])))); (try (walk_at "WP"))
    refine ⟨_, SqL.of (s1 _ _ W.gll), ?_⟩
    refine forE (xs := os) (fun i σ H1 => ∃ (o1 o2 o3 : Option V), σ = [some (.ref x), o1, o2, o3] ∧ Same H H1) ⟨_, _, _, rfl, s1⟩ ?_ ?_ ?_
    · rintro i σ H1 _ ⟨_, _, _, _, s1⟩
      exact SqL.of (s1 _ _ W.gll)
    · rintro i v t σ H1 N2 hv ht ⟨o1, o2, o3, rfl, s1⟩ hN2
      have hi : i < gs.length := by rw [← W.hgs.len]; exact (List.getElem?_eq_some_iff.mp hv).1
      obtain ⟨y, hy1, hy2⟩ := W.hgs.at_ i _ (List.getElem?_eq_getElem hi)
      have hgi : gs[i]? = some gs[i] := List.getElem?_eq_getElem hi
      generalize gs[i] = g at hy2 hgi
      rw [hv] at hy1
      cases hy1
      have k1 := hgs g (List.mem_of_getElem? hgi)
      have st := same_new ht (.tup [V.int (i : Int), .ref y])
      have hy3 := st.seqT (s1.seqT hy2)
      have h9 : upd H1 t (.tup [V.int (i : Int), .ref y]) t = some (.tup [V.int (i : Int), .ref y]) := upd_same
      have s2 := s1.trans st
      generalize upd H1 t (.tup [V.int (i : Int), .ref y]) = H2 at hy3 h9 s2 ⊢
      unfold gTp at hy3
      (iterate 5 ((try (walk_at "WP")); (try (simp only [h9, Option.some.injEq, HO.tup.injEq, HO.lst.injEq, HO.dK.injEq, exists_eq_left', exists_eq_left])))); (try (walk_at "WP"))
      refine ⟨_, hy3, _, rfl, ?_⟩
      try walk_at "WP"
      rw [if_neg (by omega)]
      exact hN2 _ _ ⟨_, _, _, rfl, s2⟩
    · rintro σ H1 ⟨o1, o2, o3, rfl, s1⟩
      try walk_at "WP"
      exact q _ s1
end

section
variable {P : Program} {w : World} {K : PySem.W.Frag} {mg : Str → Option Value} {base : Heap}
theorem ok_movE (T : Txt K mg) : Cal P w K mg base 1 "moved" ["part", "shift", "sign"] (spMovE K) := by
  have B := T.bl
  obtain ⟨cst_NO_OUT, mg_NO_OUT, hcst⟩ := T.c_NO_OUT
  refine mkCal T.t_moved sc_moved (fun vs H Q E h => ?_) (fun f cdv A outer s H vs Q E hr h => ?_)
  · obtain ⟨_, _, _, _, rfl, _⟩ := h
    rfl
  obtain ⟨p, G, sh, g, rfl, hp, hg, q⟩ := h
  unfold gTp at hp
  refine ⟨_, ((@pss_cons _ _ _ _ _ (@ps_if _ _ _ _ _ _ _ _ (@pt_cmpR _ _ _ _ _ _ _ _ op_eq (@pe_op _ _ _ _ _ _ _ _ op_mulB (@pe_ix _ _ _ _ _ _ _ ix_tup (pv 0) pe_int (fun _ _ => rfl)) (pv 2)) pe_int (@nomark _ _ (by decide) (by decide))) (@pss_one _ _ _ (@ps_ret _ _ _ _ (@pe_glob _ _ (.ref cst_NO_OUT) _ _ rfl mg_NO_OUT rfl (by decide)))) pss_nil) (@pss_one _ _ _ (@ps_ret _ _ _ _ (@pe_tup _ _ _ _ _ (@pa_cons _ _ _ _ _ (@pe_ix _ _ _ _ _ _ _ ix_tup (pv 0) pe_int (fun _ _ => rfl)) (@pa_cons _ _ _ _ _ (@pe_op _ _ _ _ _ _ _ _ op_add (@pe_ix _ _ _ _ _ _ _ ix_tup (pv 0) pe_int (fun _ _ => rfl)) (pv 1)) (@pa_cons _ _ _ _ _ (@pe_op _ _ _ _ _ _ _ _ op_mulB (@pe_ix _ _ _ _ _ _ _ ix_tup (pv 0) pe_int (fun _ _ => rfl)) (pv 2)) pa_nil (by rfl)) (by rfl)) (by rfl))))))), ?_⟩
  rw [show start ["part", "shift", "sign"] [.ref p, .int sh, .int g] = [some (.ref p), some (.int sh), some (.int g)] from rfl]
  try walk_at "WP"
  refine ⟨_, hp, _, rfl, ?_⟩
  try walk_at "WP"
  have ml : IntMulOk G.sg g := by rcases hg with z | z | z <;> rw [z] <;> exact mul_r (by decide) (by decide)
  refine ⟨ml, ?_⟩
  refine ite2 (fun z => ?_) (fun z => ?_)
  · refine q _ _ (Same.refl _) ?_
    unfold movG
    rw [if_pos z]
    exact hcst.sq H
  · refine ⟨_, hp, _, rfl, _, hp, _, rfl, ?_⟩
    try walk_at "WP"
    refine ⟨_, hp, _, rfl, ?_⟩
    try walk_at "WP"
    refine ⟨ml, fun r hr0 => ?_⟩
    refine q _ _ (same_new hr0 _) ?_
    unfold movG
    rw [if_neg z]
    exact SqT.of upd_same
theorem ok_deedE (T : Txt K mg) : Cal P w K mg base 1 "deed_of" ["one", "other"] (spDeedE K) := by
  have B := T.bl
  refine mkCal T.t_deed_of sc_deed_of (fun vs H Q E h => ?_) (fun f cdv A outer s H vs Q E hr h => ?_)
  · obtain ⟨_, _, _, _, rfl, _⟩ := h
    rfl
  obtain ⟨p1, p2, G, R, rfl, h1, h2, q⟩ := h
  unfold gTp at h1 h2
  refine ⟨_, ((@pss_cons _ _ _ _ _ (@ps_if _ _ _ _ _ _ _ _ (@pt_cmpR _ _ _ _ _ _ _ _ op_eq (@pe_ix _ _ _ _ _ _ _ ix_tup (pv 0) pe_int (fun _ _ => rfl)) (@pe_ix _ _ _ _ _ _ _ ix_tup (pv 1) pe_int (fun _ _ => rfl)) (@nomark _ _ (by decide) (by decide))) (@pss_one _ _ _ (@ps_ret _ _ _ _ (@pe_tup _ _ _ _ _ (@pa_cons _ _ _ _ _ pe_str (@pa_cons _ _ _ _ _ (@pe_ix _ _ _ _ _ _ _ ix_tup (pv 0) pe_int (fun _ _ => rfl)) (@pa_cons _ _ _ _ _ (@pe_ix _ _ _ _ _ _ _ ix_tup (pv 0) pe_int (fun _ _ => rfl)) (@pa_cons _ _ _ _ _ (@pe_ix _ _ _ _ _ _ _ ix_tup (pv 1) pe_int (fun _ _ => rfl)) (@pa_cons _ _ _ _ _ (@pe_ix _ _ _ _ _ _ _ ix_tup (pv 1) pe_int (fun _ _ => rfl)) pa_nil (by rfl)) (by rfl)) (by rfl)) (by rfl)) (by rfl))))) pss_nil) (@pss_cons _ _ _ _ _ (@ps_if _ _ _ _ _ _ _ _ (@pt_cmpR _ _ _ _ _ _ _ _ op_eq (@pe_ix _ _ _ _ _ _ _ ix_tup (pv 0) pe_int (fun _ _ => rfl)) pe_int (@nomark _ _ (by decide) (by decide))) (@pss_one _ _ _ (@ps_ret _ _ _ _ (@pe_tup _ _ _ _ _ (@pa_cons _ _ _ _ _ pe_str (@pa_cons _ _ _ _ _ (@pe_ix _ _ _ _ _ _ _ ix_tup (pv 0) pe_int (fun _ _ => rfl)) (@pa_cons _ _ _ _ _ (@pe_ix _ _ _ _ _ _ _ ix_tup (pv 0) pe_int (fun _ _ => rfl)) (@pa_cons _ _ _ _ _ (@pe_ix _ _ _ _ _ _ _ ix_tup (pv 1) pe_int (fun _ _ => rfl)) (@pa_cons _ _ _ _ _ (@pe_ix _ _ _ _ _ _ _ ix_tup (pv 1) pe_int (fun _ _ => rfl)) pa_nil (by rfl)) (by rfl)) (by rfl)) (by rfl)) (by rfl))))) pss_nil) (@pss_one _ _ _ (@ps_ret _ _ _ _ (@pe_tup _ _ _ _ _ (@pa_cons _ _ _ _ _ pe_str (@pa_cons _ _ _ _ _ (@pe_ix _ _ _ _ _ _ _ ix_tup (pv 1) pe_int (fun _ _ => rfl)) (@pa_cons _ _ _ _ _ (@pe_ix _ _ _ _ _ _ _ ix_tup (pv 1) pe_int (fun _ _ => rfl)) (@pa_cons _ _ _ _ _ (@pe_ix _ _ _ _ _ _ _ ix_tup (pv 0) pe_int (fun _ _ => rfl)) (@pa_cons _ _ _ _ _ (@pe_ix _ _ _ _ _ _ _ ix_tup (pv 0) pe_int (fun _ _ => rfl)) pa_nil (by rfl)) (by rfl)) (by rfl)) (by rfl)) (by rfl)))))))), ?_⟩
  rw [show start ["one", "other"] [.ref p1, .ref p2] = [some (.ref p1), some (.ref p2)] from rfl]
  try walk_at "WP"
  refine ⟨_, h1, _, rfl, _, h2, _, rfl, ?_⟩
  try walk_at "WP"
  refine ite2 (fun z => ?_) (fun z => ?_)
  · exact ⟨_, h1, _, rfl, _, h1, _, rfl, _, h2, _, rfl, _, h2, _, rfl, fun r hr0 => q r _ hr0 (same_new hr0 _) (by unfold deedG; rw [if_pos z, upd_same]; rfl)⟩
  · refine ⟨_, h1, _, rfl, ?_⟩
    try walk_at "WP"
    refine ite2 (fun y => ?_) (fun y => ?_)
    · exact ⟨_, h1, _, rfl, _, h1, _, rfl, _, h2, _, rfl, _, h2, _, rfl, fun r hr0 => q r _ hr0 (same_new hr0 _) (by unfold deedG; rw [if_neg z, if_pos y, upd_same]; rfl)⟩
    · exact ⟨_, h2, _, rfl, _, h2, _, rfl, _, h1, _, rfl, _, h1, _, rfl, fun r hr0 => q r _ hr0 (same_new hr0 _) (by unfold deedG; rw [if_neg z, if_neg y, upd_same]; rfl)⟩
theorem ok_signE (T : Txt K mg) : Cal P w K mg base 1 "sign_of" ["one", "other"] (spSignE K) := by
  have B := T.bl
  refine mkCal T.t_sign_of sc_sign_of (fun vs H Q E h => ?_) (fun f cdv A outer s H vs Q E hr h => ?_)
  · obtain ⟨_, _, _, _, rfl, _⟩ := h
    rfl
  obtain ⟨p1, p2, G, R, rfl, h1, h2, q⟩ := h
  unfold gTp at h1 h2
  refine ⟨_, ((@pss_one _ _ _ (@ps_ret _ _ _ _ (@pe_ifExp _ _ _ _ _ _ _ _ (@pt_cmpR _ _ _ _ _ _ _ _ op_eq (@pe_ix _ _ _ _ _ _ _ ix_tup (pv 0) pe_int (fun _ _ => rfl)) (@pe_ix _ _ _ _ _ _ _ ix_tup (pv 1) pe_int (fun _ _ => rfl)) (@nomark _ _ (by decide) (by decide))) (@pe_ix _ _ _ _ _ _ _ ix_tup (pv 0) pe_int (fun _ _ => rfl)) pe_int)))), ?_⟩
  rw [show start ["one", "other"] [.ref p1, .ref p2] = [some (.ref p1), some (.ref p2)] from rfl]
  try walk_at "WP"
  refine ⟨_, h1, _, rfl, _, h2, _, rfl, ?_⟩
  try walk_at "WP"
  unfold signG at q
  refine ite2 (fun z => ?_) (fun z => ?_)
  · rw [if_pos z] at q
    exact ⟨_, h1, _, rfl, q⟩
  · rw [if_neg z] at q
    exact q
theorem ok_addE (T : Txt K mg) : Cal P w K mg base 2 "add_sum" ["ins", "deeds", "one", "other"] (spAddE K) := by
  have B := T.bl
  have C_deed_of := ok_deedE (P := P) (w := w) (base := base) T
  have C_sign_of := ok_signE (P := P) (w := w) (base := base) T
  refine mkCal T.t_add_sum sc_add_sum (fun vs H Q E h => ?_) (fun f cdv A outer s H vs Q E hr h => ?_)
  · obtain ⟨_, _, _, _, _, _, _, _, rfl, _⟩ := h
    rfl
  obtain ⟨ins, l, p1, p2, us, ds, G, R, rfl, hl, hds, h1, h2, ul, q⟩ := h
  have h1' := h1
  have h2' := h2
  unfold gTp at h1' h2'
  refine ⟨_, ((@pss_cons _ _ _ _ _ (@ps_if _ _ _ _ _ _ _ _ (@pt_cmpR _ _ _ _ _ _ _ _ op_eq (@pe_ix _ _ _ _ _ _ _ ix_tup (pv 2) pe_int (fun _ _ => rfl)) pe_int (@nomark _ _ (by decide) (by decide))) (@pss_one _ _ _ (@ps_ret _ _ _ _ (pv 3))) pss_nil) (@pss_cons _ _ _ _ _ (@ps_if _ _ _ _ _ _ _ _ (@pt_cmpR _ _ _ _ _ _ _ _ op_eq (@pe_ix _ _ _ _ _ _ _ ix_tup (pv 3) pe_int (fun _ _ => rfl)) pe_int (@nomark _ _ (by decide) (by decide))) (@pss_one _ _ _ (@ps_ret _ _ _ _ (pv 2))) pss_nil) (@pss_cons _ _ _ _ _ (@ps_expr _ _ _ _ (@pe_bm _ _ _ _ _ _ _ _ _ _ _ _ PySem.F.plainAttrs_list PySem.F.slot_list_append PySem.F.type_list_append mt_append (pv 1) (@pa_cons _ _ _ _ _ (@pe_cal _ _ _ _ _ _ _ _ _ _ C_deed_of hr rfl (@pa_cons _ _ _ _ _ (pv 2) (@pa_cons _ _ _ _ _ (pv 3) pa_nil (by rfl)) (by rfl)) (by decide) (by rfl) (by rfl)) pa_nil (by rfl)) (by rfl) (by rfl) (by rfl) (by rfl) (by rfl)) (by rfl)) (@pss_one _ _ _ (@ps_ret _ _ _ _ (@pe_tup _ _ _ _ _ (@pa_cons _ _ _ _ _ (@pe_op _ _ _ _ _ _ _ _ op_sub (@pe_op _ _ _ _ _ _ _ _ op_add (pv 0) (@pe_callB _ _ _ _ _ _ _ _ _ call_lenM rfl B.len bo_len (@pa_cons _ _ _ _ _ (pv 1) pa_nil (by rfl)) (by decide) (by decide) (by rfl) (by rfl))) pe_int) (@pa_cons _ _ _ _ _ pe_int (@pa_cons _ _ _ _ _ (@pe_cal _ _ _ _ _ _ _ _ _ _ C_sign_of hr rfl (@pa_cons _ _ _ _ _ (pv 2) (@pa_cons _ _ _ _ _ (pv 3) pa_nil (by rfl)) (by rfl)) (by decide) (by rfl) (by rfl)) pa_nil (by rfl)) (by rfl)) (by rfl))))))))), ?_⟩
  rw [show start ["ins", "deeds", "one", "other"] [.int (ins : Int), .ref l, .ref p1, .ref p2] = [some (.int (ins : Int)), some (.ref l), some (.ref p1), some (.ref p2)] from rfl]
  try walk_at "WP"
  refine ⟨_, h1', _, rfl, ?_⟩
  try walk_at "WP"
  unfold addG addP at q
  refine ite2 (fun z => ?_) (fun z => ?_)
  · rw [if_pos z, if_pos z] at q
    exact q _ _ _ (fun _ _ _ y => y) hl hds h2
  rw [if_neg z, if_neg z] at q
  refine ⟨_, h2', _, rfl, ?_⟩
  try walk_at "WP"
  refine ite2 (fun y => ?_) (fun y => ?_)
  · rw [if_pos y, if_pos y] at q
    exact q _ _ _ (fun _ _ _ y => y) hl hds h1
  rw [if_neg y, if_neg y] at q
  refine ⟨ty_list hl, ?_⟩
  refine ⟨_, _, _, _, rfl, h1, h2, fun r H1 nr s1 hr1 => ?_⟩
  have hl1 := s1 _ _ hl
  (iterate 5 ((try (walk_at "WP")); (try (simp only [hl1, Option.some.injEq, HO.tup.injEq, HO.lst.injEq, HO.dK.injEq, exists_eq_left', exists_eq_left])))); (try (walk_at "WP"))
  refine ⟨lt_big (by omega), ?_⟩
  have C2 : Chg l H1 (upd H1 l (.lst (us ++ [.ref r]))) := Chg.upd _
  have hl2 : upd H1 l (.lst (us ++ [.ref r])) l = some (.lst (us ++ [.ref r])) := upd_same
  have rl : r ≠ l := (ne_of_none hl nr).symm
  have hr2 := C2 _ _ rl hr1
  have hds2 := ((hds.same s1).chgL hl1 C2).snoc hr2
  have hu2 := sqT_chg (s1.seqT h1) hl1 C2
  have hv2 := sqT_chg (s1.seqT h2) hl1 C2
  have dsl := hds.len
  generalize upd H1 l (.lst (us ++ [.ref r])) = H2 at C2 hl2 hu2 hv2 hds2 ⊢
  (iterate 5 ((try (walk_at "WP")); (try (simp only [hl2, Option.some.injEq, HO.tup.injEq, HO.lst.injEq, HO.dK.injEq, exists_eq_left', exists_eq_left])))); (try (walk_at "WP"))
  refine ⟨_, _, _, _, rfl, hu2, hv2, ?_⟩
  try walk_at "WP"
  intro t ht
  have st := same_new ht (.tup [V.int ((ins : Int) + ((us ++ [V.ref r]).length : Nat) - 1), V.int 0, V.int (signG G R)])
  refine q _ _ _ ((s1.chg.trans C2).trans st.chg) (st _ _ hl2) (hds2.same st) (SqT.of ?_)
  rw [upd_same]
  unfold gTp
  rw [show ((ins : Int) + ((us ++ [V.ref r]).length : Nat) - 1) = ((ins + ds.length : Nat) : Int) by rw [List.length_append, dsl, List.length_singleton]; omega]
end

section
variable {P : Program} {w : World} {K : PySem.W.Frag} {mg : Str → Option Value} {base : Heap}
theorem ok_turnE (T : Txt K mg) : Cal P w K mg base 5 "turned" ["web"] (spTurnE K) := by
  have B := T.bl
  obtain ⟨cst_NO_OUT, mg_NO_OUT, hcst⟩ := T.c_NO_OUT
  have C_refuse_down := (ok_refK (P := P) (w := w) (base := base) T).mono (k := 4) (by decide)
  have C_thing_count := (ok_countK (P := P) (w := w) (base := base) T).mono (k := 4) (by decide)
  have C_arrows := (ok_arrK (P := P) (w := w) (base := base) T).mono (k := 4) (by decide)
  have C_add_sum := (ok_addE (P := P) (w := w) (base := base) T).mono (k := 4) (by decide)
  have C_moved := (ok_movE (P := P) (w := w) (base := base) T).mono (k := 4) (by decide)
  refine mkCal T.t_turned sc_turned (fun vs H Q E h => ?_) (fun f cdv A outer s H vs Q E hr h => ?_)
  · obtain ⟨_, _, _, _, _, _, _, _, _, _, rfl, _⟩ := h
    rfl
  obtain ⟨x, dl, gl, ins, us, ds, os, gs, μ, Bd, rfl, W, TW, hm, q⟩ := h
  have ok := TW.ok
  refine ⟨_, ((@pss_cons _ _ _ _ _ (@ps_expr _ _ _ _ (@pe_cal _ _ _ _ _ _ _ _ _ _ C_refuse_down hr rfl (@pa_cons _ _ _ _ _ (pv 0) pa_nil (by rfl)) (by decide) (by rfl) (by rfl)) (by rfl)) (@pss_cons _ _ _ _ _ (@ps_set _ _ (1) _ _ _ _ sc_turned.nd rfl (by first | exact Or.inl rfl | exact Or.inr rfl) (@pe_callB _ _ _ _ _ _ _ _ _ call_lenM rfl B.len bo_len (@pa_cons _ _ _ _ _ (@pe_ix _ _ _ _ _ _ _ ix_U (pv 0) pe_int (fun _ _ => rfl)) pa_nil (by rfl)) (by decide) (by decide) (by rfl) (by rfl)) (by rfl) (by first | exact .inl rfl | exact .inr rfl | assumption)) (@pss_cons _ _ _ _ _ (@ps_if _ _ _ _ _ _ _ _ (@pt_cmpR _ _ _ _ _ _ _ _ op_eq (pv 1) pe_int (@nomark _ _ (by decide) (by decide))) (@pss_one _ _ _ ps_never) pss_nil) (@pss_cons _ _ _ _ _ (@ps_set _ _ (2) _ _ _ _ sc_turned.nd rfl (by first | exact Or.inl rfl | exact Or.inr rfl) (@pe_lst _ _ _ _ pa_nil) (by rfl) (by first | exact .inl rfl | exact .inr rfl | assumption)) (@pss_cons _ _ _ _ _ (@ps_set _ _ (3) _ _ _ _ sc_turned.nd rfl (by first | exact Or.inl rfl | exact Or.inr rfl) (@pe_op _ _ _ _ _ _ _ _ op_cat (@pe_comp0 _ _ _ _ _ _ _ _ (["thing"]) (1) ([]) _ _ _ rfl (@pi_range1 _ _ _ _ _ _ rfl B.range (@pa_cons _ _ _ _ _ (@pe_cal _ _ _ _ _ _ _ _ _ _ C_thing_count hr rfl (@pa_cons _ _ _ _ _ (pv 0) pa_nil (by rfl)) (by decide) (by rfl) (by rfl)) pa_nil (by rfl)) (by rfl)) (fun nd C s H fp => ⟨(@pg_name _ _ (0) _ nd rfl (by first | exact Or.inl rfl | exact Or.inr rfl) (by first | exact .inl rfl | exact .inr rfl | assumption)), pn_nil, (@pe_glob _ _ (.ref cst_NO_OUT) _ _ rfl mg_NO_OUT rfl (by decide))⟩) (by decide +kernel) (by first | rfl | decide +kernel) (by first | rfl | decide +kernel) rfl (fun _ => rfl)) (@pe_comp0 _ _ _ _ _ _ _ _ (["place"]) (1) ([]) _ _ _ rfl (@pi_range1 _ _ _ _ _ _ rfl B.range (@pa_cons _ _ _ _ _ (pv 1) pa_nil (by rfl)) (by rfl)) (fun nd C s H fp => ⟨(@pg_name _ _ (0) _ nd rfl (by first | exact Or.inl rfl | exact Or.inr rfl) (by first | exact .inl rfl | exact .inr rfl | assumption)), pn_nil, (@pe_tup _ _ _ _ _ (@pa_cons _ _ _ _ _ (pv 0) (@pa_cons _ _ _ _ _ pe_int (@pa_cons _ _ _ _ _ pe_int pa_nil (by rfl)) (by rfl)) (by rfl)))⟩) (by decide +kernel) (by first | rfl | decide +kernel) (by first | rfl | decide +kernel) rfl (fun _ => rfl))) (by rfl) (by first | exact .inl rfl | exact .inr rfl | assumption)) (@pss_cons _ _ _ _ _ (@ps_for _ _ _ _ _ _ _ _ PassesOwn.never rfl (@pi_rev _ _ _ _ _ _ rfl B.reversed (@pa_cons _ _ _ _ _ (@pe_cal _ _ _ _ _ _ _ _ _ _ C_arrows hr rfl (@pa_cons _ _ _ _ _ (pv 0) pa_nil (by rfl)) (by decide) (by rfl) (by rfl)) pa_nil (by rfl)) (by rfl)) (@pg_tupM _ _ _ _ _ 4 rfl (@pgs_cons _ _ _ _ _ (@pg_name _ _ (4) _ sc_turned.nd rfl (by first | exact Or.inl rfl | exact Or.inr rfl) (by first | exact .inl rfl | exact .inr rfl | assumption)) (@pgs_cons _ _ _ _ _ (@pg_name _ _ (5) _ sc_turned.nd rfl (by first | exact Or.inl rfl | exact Or.inr rfl) (by first | exact .inl rfl | exact .inr rfl | assumption)) (@pgs_cons _ _ _ _ _ (@pg_name _ _ (6) _ sc_turned.nd rfl (by first | exact Or.inl rfl | exact Or.inr rfl) (by first | exact .inl rfl | exact .inr rfl | assumption)) (@pgs_cons _ _ _ _ _ (@pg_name _ _ (7) _ sc_turned.nd rfl (by first | exact Or.inl rfl | exact Or.inr rfl) (by first | exact .inl rfl | exact .inr rfl | assumption)) pgs_nil (by rfl)) (by rfl)) (by rfl)) (by rfl)) (by rfl) (by rfl)) (@pss_one _ _ _ (@ps_asg _ _ _ _ _ _ (@pe_cal _ _ _ _ _ _ _ _ _ _ C_add_sum hr rfl (@pa_cons _ _ _ _ _ (pv 1) (@pa_cons _ _ _ _ _ (pv 2) (@pa_cons _ _ _ _ _ (@pe_ix _ _ _ _ _ _ _ ix_M (pv 3) (pv 4) (fun _ _ => rfl)) (@pa_cons _ _ _ _ _ (@pe_cal _ _ _ _ _ _ _ _ _ _ C_moved hr rfl (@pa_cons _ _ _ _ _ (@pe_ix _ _ _ _ _ _ _ ix_M (pv 3) (pv 5) (fun _ _ => rfl)) (@pa_cons _ _ _ _ _ (pv 6) (@pa_cons _ _ _ _ _ (pv 7) pa_nil (by rfl)) (by rfl)) (by rfl)) (by decide) (by rfl) (by rfl)) pa_nil (by rfl)) (by rfl)) (by rfl)) (by rfl)) (by decide) (by rfl) (by rfl)) (@pg_sub _ _ _ _ _ _ _ (pv 3) (pv 4) set_list (by intro _ ; rfl)) (by rfl) (by rfl) (by rfl))) (by intro _ ; rfl)) (@pss_one _ _ _ (@ps_ret _ _ _ _ (@pe_tup _ _ _ _ _ (@pa_cons _ _ _ _ _ (pv 1) (@pa_cons _ _ _ _ _ (pv 2) (@pa_cons _ _ _ _ _ (@pe_slice _ _ _ _ _ _ _ _ _ _ sl_list (pv 3) po_none (@po_some _ _ _ (@pe_ix _ _ _ _ _ _ _ ix_U (pv 0) pe_int (fun _ _ => rfl)))) pa_nil (by rfl)) (by rfl)) (by rfl)))))))))))), ?_⟩
  rw [show start ["web", "ins", "deeds", "parts", "start", "goal", "shift", "sign"] [.ref x] = [some (.ref x), none, none, none, none, none, none, none] from rfl]
  try walk_at "WP"
  refine ⟨x, dl, gl, ins, us, ds, os, gs, rfl, W, ok.dl, ok.gl, TW.low.1, TW.low.2, fun H1 s1 => ?_⟩
  have W1 := W.same s1
  have h1 := W1.tup
  have hg1 := W1.gll
  (iterate 5 ((try (walk_at "WP")); (try (simp only [h1, hg1, Option.some.injEq, HO.tup.injEq, HO.lst.injEq, HO.dK.injEq, exists_eq_left', exists_eq_left])))); (try (walk_at "WP"))
  have ol := W.hgs.len
  rw [if_neg (by omega)]
  have i2 := ok.i2
  have dl6 := ok.dl
  have gl6 := ok.gl
  intro e ne
  have s2 := same_new ne (.lst [])
  have he2 : upd H1 e (.lst []) e = some (.lst []) := upd_same
  have e2 := s1.trans s2
  have ne0 : H e = none := s1.free ne
  generalize upd H1 e (.lst []) = H2 at he2 e2 ⊢
  refine ⟨x, dl, gl, ins, us, ds, os, gs, rfl, W.same e2, ?_⟩
  try walk_at "WP"
  refine ⟨by omega, by omega, ?_⟩
  rw [show ((ins : Int) + ((ds.length : Nat) : Int)).toNat = ins + ds.length by omega]
  refine comp_rK (K := K) (f := gTp) (by omega) (fun _ => g0) (fun i H' R hi s' hR => ?_) (fun acc vs H3 n3 s3 h3 p3 => ?_)
  · try walk_at "WP"
    exact hR _ _ (Same.refl _) (hcst.sq H')
  try walk_at "WP"
  refine ⟨by omega, by omega, ?_⟩
  rw [Int.toNat_natCast]
  refine comp_rK (K := K) (f := gTp) (by omega) (fun k => ⟨k, 0, 1⟩) (fun i H' R hi s' hR => ?_) (fun acc2 vs2 H4 n4 s4 h4 p4 => ?_)
  · try walk_at "WP"
    intro t nt
    refine hR _ _ (same_new nt _) (SqT.of ?_)
    rw [upd_same, show (0 : Int) + (i : Int) = i by omega]
    rfl
  try walk_at "WP"
  have l3 := p3.len
  have l4 := p4.len
  rw [List.length_map, List.length_range] at l3 l4
  refine ⟨_, s4 _ _ h3, _, h4, le_size (by omega), fun pl np => ?_⟩
  have s5 := same_new np (.lst (vs ++ vs2))
  have hp5 : upd H4 pl (.lst (vs ++ vs2)) pl = some (.lst (vs ++ vs2)) := upd_same
  have e4 := (e2.trans s3).trans s4
  have npl : H pl = none := e4.free np
  have e5 := e4.trans s5
  have he5 := s5 _ _ (s4 _ _ (s3 _ _ he2))
  have epl : e ≠ pl := ne_of_none (s4 _ _ (s3 _ _ he2)) np
  have pr5 : HKs K gTp (upd H4 pl (.lst (vs ++ vs2))) (vs ++ vs2) (st0 (ins + ds.length) gs.length) := by
    have := ((p3.same s4).same s5).app (p4.same s5)
    rw [ol] at this
    unfold st0
    rw [show (List.replicate (ins + ds.length) g0 : List Go) = (List.range (ins + ds.length)).map (fun _ => g0) by rw [List.map_const', List.length_range]]
    exact this
  have vl : (vs ++ vs2).length = ins + ds.length + gs.length := by rw [List.length_append, l3, l4, ol]
  generalize vs ++ vs2 = vs at hp5 pr5 vl s5 e5 he5 ⊢
  generalize upd H4 pl (.lst vs) = H5 at hp5 pr5 e5 he5 s5 ⊢
  try walk_at "WP"
  refine ⟨x, dl, gl, ins, us, ds, os, gs, rfl, W.same e5, by omega, by omega, fun r ws H6 n6 s6 h6 ha => ?_⟩
  try walk_at "WP"
  refine ⟨_, SqL.of h6, ?_⟩
  have al := allA_len ok
  have wl := ha.len
  have re : r ≠ e := (ne_of_none he5 n6).symm
  have rp : r ≠ pl := (ne_of_none hp5 n6).symm
  have AR := TW.arr
  refine forV (xs := ws) (fun i σ H7 => ∃ (o4 o5 o6 o7 : Option V) (vs ys : List V), σ = [some (.ref x), some (.int (os.length : Nat)), some (.ref e), some (.ref pl), o4, o5, o6, o7] ∧ Same H H7 ∧ H7 r = some (.lst ws) ∧ HTs aTup H7 ws (allA ins ds gs) ∧ H7 pl = some (.lst vs) ∧ vs.length = ins + ds.length + gs.length ∧ HKs K gTp H7 vs (turnF gs.length ([], st0 (ins + ds.length) gs.length) ((allA ins ds gs).drop (ws.length - i))).2 ∧ H7 e = some (.lst ys) ∧ HTs wTup H7 ys (turnF gs.length ([], st0 (ins + ds.length) gs.length) ((allA ins ds gs).drop (ws.length - i))).1 ∧ ys.length ≤ i)
    ⟨_, _, _, _, vs, [], rfl, e5.trans s6, h6, ha, s6 _ _ hp5, vl, by rw [List.drop_of_length_le (by omega)]; exact pr5.same s6, s6 _ _ he5, by rw [List.drop_of_length_le (by omega)]; exact hts_nil, Nat.le_refl _⟩ ?_ ?_ ?_
  · rintro i σ H7 _ ⟨_, _, _, _, _, _, _, _, h7, _⟩
    exact SqL.of h7
  · rintro i v σ H7 N hv7 ⟨o4, o5, o6, o7, vs, ys, rfl, s7, h7, ha7, hp7, vl7, pr7, he7, hy7, yl⟩ hN
    have hi : i < ws.length := by
      have := (List.getElem?_eq_some_iff.mp hv7).1
      rwa [List.length_reverse] at this
    rw [List.getElem?_reverse hi] at hv7
    have hj : ws.length - 1 - i < (allA ins ds gs).length := by rw [← wl]; omega
    have ej := List.getElem?_eq_getElem hj
    obtain ⟨y, hy1, hy2⟩ := ha7.at_ _ _ ej
    have hmm : (allA ins ds gs)[ws.length - 1 - i] ∈ allA ins ds gs := List.getElem_mem hj
    have dr : (allA ins ds gs).drop (ws.length - (i + 1)) = (allA ins ds gs)[ws.length - 1 - i] :: (allA ins ds gs).drop (ws.length - i) := by
      rw [List.drop_eq_getElem_cons (by omega), show ws.length - (i + 1) + 1 = ws.length - i by omega]
      congr 2
      omega
    generalize (allA ins ds gs)[ws.length - 1 - i] = ar at hy2 hmm dr
    rw [hv7] at hy1
    cases hy1
    obtain ⟨g3, g4, g5, g6, _⟩ := AR ar hmm
    unfold aTup at hy2
    have stl := pr7.len
    have tf := turnF_cons gs.length ([], st0 (ins + ds.length) gs.length) ((allA ins ds gs).drop (ws.length - i)) ar
    rw [← dr] at tf
    generalize turnF gs.length ([], st0 (ins + ds.length) gs.length) ((allA ins ds gs).drop (ws.length - i)) = a0 at pr7 hy7 tf stl
    obtain ⟨D, st⟩ := a0
    dsimp only at pr7 hy7 stl
    have e1 := List.getElem?_eq_getElem (l := st) (i := ar.st) (by omega)
    have e2' := List.getElem?_eq_getElem (l := st) (i := ar.go) (by omega)
    obtain ⟨p1, v1, m1⟩ := pr7.at_ _ _ e1
    obtain ⟨p2, v2, m2⟩ := pr7.at_ _ _ e2'
    rw [← getD_of (d := g0) e1] at m1
    rw [← getD_of (d := g0) e2'] at m2
    (iterate 5 ((try (walk_at "WP")); (try (simp only [hy2, hp7, Option.some.injEq, HO.tup.injEq, HO.lst.injEq, HO.dK.injEq, exists_eq_left', exists_eq_left])))); (try (walk_at "WP"))
    refine ⟨_, atI_nat v1, _, atI_nat v2, ?_⟩
    refine ⟨p2, _, ar.sh, ar.sg, rfl, m2, .inr g6, fun u H8 s8 p8 => ?_⟩
    try walk_at "WP"
    refine ⟨gs.length, e, p1, u, ys, D, _, _, by rw [ol], s8 _ _ he7, hy7.same s8, s8.seqT m1, p8, by omega, fun u2 ys2 H9 C9 h9 l9 p9 => ?_⟩
    have hp9 := C9 _ _ epl.symm (s8 _ _ hp7)
    have h79 := C9 _ _ re (s8 _ _ h7)
    have ha9 := (ha7.same s8).chgL (s8 _ _ he7) C9
    have pr9 := (pr7.same s8).chgL (s8 _ _ he7) C9
    have s9 : Same H H9 := same_chg ne0 (s7.trans s8) C9
    (iterate 5 ((try (walk_at "WP")); (try (simp only [hp9, Option.some.injEq, HO.tup.injEq, HO.lst.injEq, HO.dK.injEq, exists_eq_left', exists_eq_left])))); (try (walk_at "WP"))
    refine ⟨ar.st, ixN_nat (by omega), ?_⟩
    have C10 : Chg pl H9 (upd H9 pl (.lst (vs.set ar.st (.ref u2)))) := Chg.upd _
    have yl2 : ys2.length ≤ i + 1 := by
      have h6 := l9.len
      have h3 := hy7.len
      unfold addG at h6
      split at h6
      · omega
      · split at h6
        · omega
        · rw [List.length_append] at h6; simp at h6; omega
    refine hN _ _ ⟨_, _, _, _, vs.set ar.st (.ref u2), ys2, rfl, same_chg npl s9 C10, C10 _ _ rp h79, ha9.chgL hp9 C10, upd_same, by rw [List.length_set]; exact vl7, ?_, C10 _ _ epl h9, ?_, yl2⟩
    · rw [tf]
      exact (pr9.set (by omega) p9).chgL hp9 C10
    · rw [tf]
      exact l9.chgL hp9 C10
  · rintro σ H7 ⟨o4, o5, o6, o7, vs, ys, rfl, s7, h7, ha7, hp7, vl7, pr7, he7, hy7, yl⟩
    rw [Nat.sub_self, List.drop_zero] at pr7 hy7
    have h1 := s7 _ _ W.tup
    (iterate 5 ((try (walk_at "WP")); (try (simp only [h1, Option.some.injEq, HO.tup.injEq, HO.lst.injEq, HO.dK.injEq, exists_eq_left', exists_eq_left])))); (try (walk_at "WP"))
    refine ⟨_, SqL.of hp7, fun ps nps => ?_⟩
    rw [cut_take]
    have s8 := same_new nps (.lst (vs.take ins))
    intro t nt
    have s9 := same_new nt (.tup [V.int ((os.length : Nat) : Int), V.ref e, V.ref ps])
    have eps : e ≠ ps := ne_of_none he7 nps
    refine q t e ps _ _ _ ((s7.trans s8).free nt) ne0 (s7.free nps) eps ((s7.trans s8).trans s9) ⟨?_, s9 _ _ (s8 _ _ he7), (hy7.same s8).same s9, s9 _ _ upd_same, ((pr7.take (n := ins)).same s8).same s9⟩
    rw [upd_same, ol]
end

section
variable {P : Program} {w : World} {K : PySem.W.Frag} {mg : Str → Option Value} {base : Heap}
theorem ok_lpen (T : Txt K mg) : Cal P w K mg base 1 "_law_pen" ["_law_script"] (spLPen K) := by
  have B := T.bl
  refine mkCal T.t_l_pen sc_l_pen (fun vs H Q E h => ?_) (fun f cdv A outer s H vs Q E hr h => ?_)
  · obtain ⟨a, rfl, _⟩ := h
    rfl
  obtain ⟨a, rfl, q⟩ := h
  refine ⟨_, ((@pss_one _ _ _ (@ps_ret _ _ _ _ (@pe_lst _ _ _ _ (@pa_cons _ _ _ _ _ (pv 0) (@pa_cons _ _ _ _ _ pe_int (@pa_cons _ _ _ _ _ pe_int pa_nil (by rfl)) (by rfl)) (by rfl)))))), ?_⟩
  rw [show start ["_law_script"] [.ref a] = [some (.ref a)] from rfl]
  try walk_at "WP"
  intro p hp
  exact q p _ hp (same_new hp _) (lpen_of (by decide) (by decide) (by decide))
theorem ok_ltake (T : Txt K mg) : Cal P w K mg base 1 "_law_take" ["_law_pen_here", "_law_many"] (spLTake K) := by
  have B := T.bl
  refine mkCal T.t_l_take sc_l_take (fun vs H Q E h => ?_) (fun f cdv A outer s H vs Q E hr h => ?_)
  · obtain ⟨p, a, ns, m, c, rfl, _⟩ := h
    rfl
  obtain ⟨p, a, ns, m, c_, rfl, hP, hS, h63, hc, h1, h2, q⟩ := h
  refine ⟨_, ((@pss_cons _ _ _ _ _ (@ps_asg _ _ _ _ _ _ (pv 0) (@pg_lst _ _ _ _ _ 3 rfl (@pgs_cons _ _ _ _ _ (@pg_name _ _ (2) _ sc_l_take.nd rfl (by first | exact Or.inl rfl | exact Or.inr rfl) (by first | exact .inl rfl | exact .inr rfl | assumption)) (@pgs_cons _ _ _ _ _ (@pg_name _ _ (3) _ sc_l_take.nd rfl (by first | exact Or.inl rfl | exact Or.inr rfl) (by first | exact .inl rfl | exact .inr rfl | assumption)) (@pgs_cons _ _ _ _ _ (@pg_name _ _ (4) _ sc_l_take.nd rfl (by first | exact Or.inl rfl | exact Or.inr rfl) (by first | exact .inl rfl | exact .inr rfl | assumption)) pgs_nil (by rfl)) (by rfl)) (by rfl)) (by rfl) (by rfl)) (by rfl) (by rfl) (by rfl)) (@pss_cons _ _ _ _ _ (@ps_if _ _ _ _ _ _ _ _ (@pt_cmpR _ _ _ _ _ _ _ _ op_gt (pv 4) pe_int (@nomark _ _ (by decide) (by decide))) (@pss_cons _ _ _ _ _ (@ps_asg _ _ _ _ _ _ (@pe_op _ _ _ _ _ _ _ _ op_fdivB (pv 4) (pv 1)) (@pg_sub _ _ _ _ _ _ _ (pv 0) pe_int set_list (by intro _ ; rfl)) (by rfl) (by rfl) (by rfl)) (@pss_one _ _ _ (@ps_ret _ _ _ _ (@pe_op _ _ _ _ _ _ _ _ op_mod (pv 4) (pv 1))))) pss_nil) (@pss_cons _ _ _ _ _ (@ps_asg _ _ _ _ _ _ (@pe_op _ _ _ _ _ _ _ _ op_add (pv 3) pe_int) (@pg_sub _ _ _ _ _ _ _ (pv 0) pe_int set_list (by intro _ ; rfl)) (by rfl) (by rfl) (by rfl)) (@pss_cons _ _ _ _ _ (@ps_set _ _ (5) _ _ _ _ sc_l_take.nd rfl (by first | exact Or.inl rfl | exact Or.inr rfl) (@pe_op _ _ _ _ _ _ _ _ op_add (@pe_op _ _ _ _ _ _ _ _ op_mulB pe_int (pv 3)) pe_int) (by rfl) (by first | exact .inl rfl | exact .inr rfl | assumption)) (@pss_mid _ _ _ _ _ (@ps_if _ _ _ _ _ _ _ _ (@pt_cmpR _ _ _ _ _ _ _ _ op_gt (@pe_callB _ _ _ _ _ _ _ _ _ call_lenS rfl B.len bo_len (@pa_cons _ _ _ _ _ (pv 2) pa_nil (by rfl)) (by decide) (by decide) (by rfl) (by rfl)) pe_int (@nomark _ _ (by decide) (by decide))) (@pss_one _ _ _ (@ps_set _ _ (5) _ _ _ _ sc_l_take.nd rfl (by first | exact Or.inl rfl | exact Or.inr rfl) (@pe_ix _ _ _ _ _ _ _ ix_list (pv 2) (@pe_op _ _ _ _ _ _ _ _ op_mod (pv 3) (@pe_callB _ _ _ _ _ _ _ _ _ call_lenS rfl B.len bo_len (@pa_cons _ _ _ _ _ (pv 2) pa_nil (by rfl)) (by decide) (by decide) (by rfl) (by rfl))) (fun _ _ => rfl)) (by rfl) (by first | exact .inl rfl | exact .inr rfl | assumption))) pss_nil) (@pss_cons _ _ _ _ _ (@ps_if _ _ _ _ _ _ _ _ (@PW.pt _ _ _ (@pw_and _ _ _ _ _ _ _ (@pt_cmpR _ _ _ _ _ _ _ _ op_lt (pv 3) (@pe_callB _ _ _ _ _ _ _ _ _ call_lenS rfl B.len bo_len (@pa_cons _ _ _ _ _ (pv 2) pa_nil (by rfl)) (by decide) (by decide) (by rfl) (by rfl)) (@nomark _ _ (by decide) (by decide))) (@pw_and1 _ _ _ _ (@pt_cmpR _ _ _ _ _ _ _ _ op_ge (@pe_callB _ _ _ _ _ _ _ _ _ call_abs rfl B.abs bo_abs (@pa_cons _ _ _ _ _ (pv 5) pa_nil (by rfl)) (by decide) (by decide) (by rfl) (by rfl)) (@pe_op _ _ _ _ _ _ _ _ op_powB pe_int pe_int) (@nomark _ _ (by decide) (by decide)))))) (@pss_cons _ _ _ _ _ (@ps_asg _ _ _ _ _ _ (@pe_op _ _ _ _ _ _ _ _ op_fdivB (@pe_callB _ _ _ _ _ _ _ _ _ call_abs rfl B.abs bo_abs (@pa_cons _ _ _ _ _ (pv 5) pa_nil (by rfl)) (by decide) (by decide) (by rfl) (by rfl)) (pv 1)) (@pg_sub _ _ _ _ _ _ _ (pv 0) pe_int set_list (by intro _ ; rfl)) (by rfl) (by rfl) (by rfl)) (@pss_one _ _ _ (@ps_ret _ _ _ _ (@pe_op _ _ _ _ _ _ _ _ op_mod (@pe_callB _ _ _ _ _ _ _ _ _ call_abs rfl B.abs bo_abs (@pa_cons _ _ _ _ _ (pv 5) pa_nil (by rfl)) (by decide) (by decide) (by rfl) (by rfl)) (pv 1))))) pss_nil) (@pss_cons _ _ _ _ _ (@ps_set _ _ (6) _ _ _ _ sc_l_take.nd rfl (by first | exact Or.inl rfl | exact Or.inr rfl) (@pe_op _ _ _ _ _ _ _ _ op_mod (@pe_op _ _ _ _ _ _ _ _ op_mulB (@pe_op _ _ _ _ _ _ _ _ op_add (@pe_op _ _ _ _ _ _ _ _ op_add (@pe_op _ _ _ _ _ _ _ _ op_mod (pv 5) pe_int) (@pe_op _ _ _ _ _ _ _ _ op_mulB pe_int (pv 3))) pe_int) pe_int) pe_int) (by rfl) (by first | exact .inl rfl | exact .inr rfl | assumption)) (@pss_cons _ _ _ _ _ (@ps_set _ _ (6) _ _ _ _ sc_l_take.nd rfl (by first | exact Or.inl rfl | exact Or.inr rfl) (@pe_op _ _ _ _ _ _ _ _ op_mod (@pe_op _ _ _ _ _ _ _ _ op_add (@pe_op _ _ _ _ _ _ _ _ op_add (@pe_op _ _ _ _ _ _ _ _ op_mulB (pv 6) (pv 6)) (@pe_op _ _ _ _ _ _ _ _ op_mulB pe_int (pv 3))) pe_int) pe_int) (by rfl) (by first | exact .inl rfl | exact .inr rfl | assumption)) (@pss_one _ _ _ (@ps_ret _ _ _ _ (@pe_op _ _ _ _ _ _ _ _ op_mod (@pe_op _ _ _ _ _ _ _ _ op_fdivB (@pe_op _ _ _ _ _ _ _ _ op_mod (@pe_op _ _ _ _ _ _ _ _ op_mulB (pv 6) (pv 6)) pe_int) pe_int) (pv 1))))))))))))), ?_⟩
  rw [show start ["_law_pen_here", "_law_many", "_law_script", "_law_at", "_law_left", "_law_cell", "_law_number"] [.ref p, .int m] = [some (.ref p), some (.int m), none, none, none, none, none] from rfl]
  obtain ⟨t, l, hH, ht0, htc, hl⟩ := id hP
  (iterate 5 ((try (walk_at "WP")); (try (simp only [hH, Option.some.injEq, HO.tup.injEq, HO.lst.injEq, HO.dK.injEq, exists_eq_left', exists_eq_left])))); (try (walk_at "WP"))
  refine ite2 (fun c => ?_) (fun c => ?_)
  · exact ⟨divB (by omega) h2, by omega, q _ _ (modq (by omega)).1 (modq (by omega)).2 (lpen_of ht0 (by omega) (divq hl (by omega))) (hS.lpen hP (Chg.upd _)) (Chg.upd _)⟩
  refine ⟨mul_l (by decide) (by decide), ?_⟩
  have hS1 := hS.lpen hP (Chg.upd (.lst [V.ref a, V.int (t + 1), V.int l]))
  have hP1 : LPen (upd H p (.lst [V.ref a, V.int (t + 1), V.int l])) p a (c_ + 1) := lpen_of (by omega) (by omega) hl
  have C1 : Chg p H (upd H p (.lst [V.ref a, V.int (t + 1), V.int l])) := Chg.upd _
  have hp1 : (upd H p (.lst [V.ref a, V.int (t + 1), V.int l])) p = some (.lst [V.ref a, V.int (t + 1), V.int l]) := upd_same
  generalize upd H p (.lst [V.ref a, V.int (t + 1), V.int l]) = H1 at *
  refine mid_of (fun σ H2 => ∃ (cell : Int), σ = [some (.ref p), some (.int m), some (.ref a), some (.int t), some (.int l), some (.int cell), none] ∧ H2 = H1) (fun N hN => ?_) ?_
  · try walk_at "WP"
    refine ⟨_, hS1.sq, ?_⟩
    rw [List.length_map]
    refine ite2 (fun z => ?_) (fun z => hN _ _ ⟨_, rfl, rfl⟩)
    refine ⟨_, hS1.sq, by rw [List.length_map]; omega, _, hS1.sq, ?_⟩
    rw [List.length_map]
    have b := modq (g := t) (m := (ns.length : Int)) (by omega)
    obtain ⟨v, hv, _⟩ := atI_int (ns := ns) b.1 b.2
    exact ⟨_, hv, hN _ _ ⟨v, rfl, rfl⟩⟩
  · rintro σ H2 ⟨cell, rfl, rfl⟩
    (iterate 5 ((try (walk_at "WP")); (try (simp only [hp1, Option.some.injEq, HO.tup.injEq, HO.lst.injEq, HO.dK.injEq, exists_eq_left', exists_eq_left])))); (try (walk_at "WP"))
    refine ⟨_, hS1.sq, ?_⟩
    rw [List.length_map]
    have h0 : 0 ≤ (if cell < 0 then -cell else cell) := by split <;> omega
    generalize hn1 : (cell % 2147483647 + 40692 * t + 37) * 16807 % 2147483629 = n1
    have n1b : 0 ≤ n1 ∧ n1 < 2147483629 := by omega
    generalize hn2 : (n1 * n1 + 69621 * t + 17) % 2147483563 = n2
    have n2b : 0 ≤ n2 ∧ n2 < 2147483563 := by omega
    have last : IntMulOk 40692 t ∧ IntMulOk (cell % 2147483647 + 40692 * t + 37) 16807 ∧ IntMulOk n1 n1 ∧ IntMulOk 69621 t ∧ IntMulOk n2 n2 ∧ CDivB (n2 * n2 % 2147483587) 64 ∧ 0 < m ∧ Q (V.int (n2 * n2 % 2147483587 / 64 % m)) H2 :=
      ⟨mul_l (by decide) (by decide), mul_r (by decide) (by decide), mul_l (by omega) (by omega), mul_l (by decide) (by decide), mul_l (by omega) (by omega), divB (by decide) (by decide), by omega, q _ _ (modq (by omega)).1 (modq (by omega)).2 hP1 hS1 C1⟩
    refine ite2 (fun _ => ?_) (fun _ => last)
    refine ite2 (fun _ => ?_) (fun _ => last)
    exact ⟨divB (by omega) h2, by omega, q _ _ (modq (by omega)).1 (modq (by omega)).2 (lpen_of (by omega) (by omega) (divq h0 (by omega))) (hS1.lpen hP1 (Chg.upd _)) (C1.trans (Chg.upd _))⟩
end

section
variable {P : Program} {w : World} {K : PySem.W.Frag} {mg : Str → Option Value} {base : Heap}
def spWholeX : Sp := fun vs H Q _ => ∃ n : Int, vs = [.int n] ∧ Q (.bl true) H
theorem ok_wholeX (T : Txt K mg) : Cal P w K mg base 1 "_law_whole" ["_law_thing"] spWholeX := by
  have B := T.bl
  refine mkCal T.t_l_whole sc_l_whole (fun vs H Q E h => ?_) (fun f cdv A outer s H vs Q E hr h => ?_)
  · obtain ⟨n, rfl, _⟩ := h
    rfl
  obtain ⟨n, rfl, q⟩ := h
  refine ⟨_, ((@pss_one _ _ _ (@ps_ret _ _ _ _ (@pe_and _ _ _ _ _ _ _ (@pe_callB _ _ _ _ _ _ _ _ _ call_isI rfl B.isinstance bo_isinstance (@pa_cons _ _ _ _ _ (pv 0) (@pa_cons _ _ _ _ _ (@pe_bltn _ _ (.ty "int") _ _ rfl B.int bo_int rfl (by decide) (by decide)) pa_nil (by rfl)) (by rfl)) (by decide) (by decide) (by rfl) (by rfl)) (@pe_one _ _ _ _ _ (@pe_not _ _ _ _ (@pe_callB _ _ _ _ _ _ _ _ _ call_isI rfl B.isinstance bo_isinstance (@pa_cons _ _ _ _ _ (pv 0) (@pa_cons _ _ _ _ _ (@pe_bltn _ _ (.ty "bool") _ _ rfl B.bool bo_bool rfl (by decide) (by decide)) pa_nil (by rfl)) (by rfl)) (by decide) (by decide) (by rfl) (by rfl)))))))), ?_⟩
  rw [show start ["_law_thing"] [.int n] = [some (.int n)] from rfl]
  try walk_at "WP"
  exact q
def spPartX : Sp := fun vs H Q _ => ∃ (tb : Addr) (ts : List V) (ex : List Addr) (rs : List (List Int)) (th : Nat) (sh sg : Int) (row : List Int), vs = [.ref tb, .int th, .int sh, .int sg] ∧ H tb = some (.lst ts) ∧ HRs H ex ts rs ∧ rs[th]? = some row ∧ ShU sh row ∧ (sg = 1 ∨ sg = -1) ∧ row.length ≤ 12 ∧ (∀ x ∈ row, x.natAbs < 2 ^ 9000) ∧
  ∀ r H', H r = none → Same H H' → H' r = some (.lst ((row.map fun x => sg * mvI sh x).map V.int)) → Q (.ref r) H'
theorem ok_partX (T : Txt K mg) : Cal P w K mg base 2 "_law_part" ["_law_things_by", "_law_thing", "_law_shift", "_law_sign"] spPartX := by
  have B := T.bl
  have C_l_whole := ok_wholeX (P := P) (w := w) (base := base) T
  refine mkCal T.t_l_part sc_l_part (fun vs H Q E h => ?_) (fun f cdv A outer s H vs Q E hr h => ?_)
  · obtain ⟨_, _, _, _, _, _, _, _, rfl, _⟩ := h
    rfl
  obtain ⟨tb, ts, ex, rs, th, sh, sg, row, rfl, htb, hrs, hrow, hsh, hsg, h12, hb, q⟩ := h
  obtain ⟨rp, r1, r2, _⟩ := hrs.at_ th row hrow
  have tl := hrs.len
  have thl := (List.getElem?_eq_some_iff.mp hrow).1
  obtain ⟨k1, k2⟩ := id hsh
  refine ⟨_, ((@pss_cons _ _ _ _ _ (@ps_if _ _ _ _ _ _ _ _ (@PW.pt _ _ _ (@pw_or _ _ _ _ _ _ _ (@pt_not _ _ _ _ (@pt_val _ _ _ (@pe_cal _ _ _ _ _ _ _ _ _ _ C_l_whole hr rfl (@pa_cons _ _ _ _ _ (pv 1) pa_nil (by rfl)) (by decide) (by rfl) (by rfl)) (by intro _ ; rfl))) (@pw_or _ _ _ _ _ _ _ (@pt_not _ _ _ _ (@pt_val _ _ _ (@pe_cal _ _ _ _ _ _ _ _ _ _ C_l_whole hr rfl (@pa_cons _ _ _ _ _ (pv 2) pa_nil (by rfl)) (by decide) (by rfl) (by rfl)) (by intro _ ; rfl))) (@pw_or _ _ _ _ _ _ _ (@pt_not _ _ _ _ (@pt_chain _ _ _ _ _ _ _ _ _ _ _ _ op_le op_lt pe_int (pv 1) (@pe_callB _ _ _ _ _ _ _ _ _ call_lenM rfl B.len bo_len (@pa_cons _ _ _ _ _ (pv 0) pa_nil (by rfl)) (by decide) (by decide) (by rfl) (by rfl)) (by with_unfolding_all rfl))) (@pw_or1 _ _ _ _ (@pt_not _ _ _ _ (@pt_chain _ _ _ _ _ _ _ _ _ _ _ _ op_le op_le pe_int (pv 2) pe_int (by with_unfolding_all rfl)))))))) (@pss_one _ _ _ (@ps_ret _ _ _ _ pe_non)) pss_nil) (@pss_one _ _ _ (@ps_ret _ _ _ _ (@pe_comp0 _ _ _ _ _ _ _ _ (["_law_number", "_law_sign", "_law_shift"]) (1) ([3, 2]) _ _ _ rfl (@pi_list _ _ _ _ (@pe_ix _ _ _ _ _ _ _ ix_M (pv 0) (pv 1) (fun _ _ => rfl))) (fun nd C s H fp => ⟨(@pg_name _ _ (0) _ nd rfl (by first | exact Or.inl rfl | exact Or.inr rfl) (by first | exact .inl rfl | exact .inr rfl | assumption)), pn_nil, (@pe_op _ _ _ _ _ _ _ _ op_mulB (pv 1) (@pe_op _ _ _ _ _ _ _ _ op_shlB (pv 0) (pv 2)))⟩) (by decide +kernel) (by first | rfl | decide +kernel) (by first | rfl | decide +kernel) rfl (fun _ => rfl)))))), ?_⟩
  rw [show start ["_law_things_by", "_law_thing", "_law_shift", "_law_sign"] [.ref tb, .int th, .int sh, .int sg] = [some (.ref tb), some (.int th), some (.int sh), some (.int sg)] from rfl]
  try walk_at "WP"
  refine ⟨_, rfl, ?_⟩
  try walk_at "WP"
  refine ⟨_, rfl, ?_⟩
  (iterate 5 ((try (walk_at "WP")); (try (simp only [htb, Option.some.injEq, HO.tup.injEq, HO.lst.injEq, HO.dK.injEq, exists_eq_left', exists_eq_left])))); (try (walk_at "WP"))
  rw [if_pos (by omega), if_neg (by omega), if_pos (by omega), if_neg (by omega)]
  refine ⟨_, atI_nat r1, _, rfl, ⟨_, SqL.of r2⟩, ?_⟩
  refine comp_ofI (xs := row) r2 (by rw [List.length_map]) (by omega) (fun x => sg * mvI sh x) (fun k v x H' R hv hx s' hR => ?_) (fun acc H1 n1 e1 h1 => ?_)
  · obtain ⟨n, hn, rfl⟩ := map_at hv
    rw [hx] at hn
    cases hn
    rw [show capV [3, 2] [some (V.ref tb), some (V.int (th : Int)), some (V.int sh), some (V.int sg)] = [some (V.int sg), some (V.int sh)] from rfl]
    try walk_at "WP"
    refine ⟨⟨by omega, by omega, Nat.le_trans (bits_le (hb x (List.mem_of_getElem? hx))) (by decide)⟩, ?_⟩
    refine ⟨by rcases hsg with z | z <;> rw [z] <;> exact mul_l (by decide) (by decide), ?_⟩
    rw [mvI_up k1] at hR
    exact hR _ (Same.refl _)
  · exact q acc H1 n1 e1 h1
def spComeX : Sp := fun vs H Q _ => ∃ (tb x : Addr) (ts : List V) (ex : List Addr) (rs : List (List Int)) (d : Wd), vs = [.ref tb, .ref x] ∧ H tb = some (.lst ts) ∧ HRs H ex ts rs ∧ H x = some (.tup (wTup d)) ∧ (d.w = "sum" ∨ d.w = "less") ∧ d.a < rs.length ∧ d.b < rs.length ∧ ShU d.s (rs.getD d.a []) ∧ ShU d.t (rs.getD d.b []) ∧ (rs.getD d.a []).length = (rs.getD d.b []).length ∧ (∀ r ∈ rs, r.length ≤ 12 ∧ ∀ n ∈ r, n.natAbs < 2 ^ 9000) ∧
  ∀ r H', H r = none → Same H H' → H' r = some (.lst ((rowD rs d).map V.int)) → Q (.ref r) H'
theorem ok_comeX (T : Txt K mg) : Cal P w K mg base 3 "_law_come" ["_law_things_by", "_law_deed"] spComeX := by
  have B := T.bl
  have C_l_part := ok_partX (P := P) (w := w) (base := base) T
  refine mkCal T.t_l_come sc_l_come (fun vs H Q E h => ?_) (fun f cdv A outer s H vs Q E hr h => ?_)
  · obtain ⟨_, _, _, _, _, _, rfl, _⟩ := h
    rfl
  obtain ⟨tb, x, ts, ex, rs, d, rfl, htb, hrs, hx, hw, ha, hb, sa, sb, hl, hb9, q⟩ := h
  refine ⟨_, ((@pss_cons _ _ _ _ _ (@ps_if _ _ _ _ _ _ _ _ (@PW.pt _ _ _ (@pw_or _ _ _ _ _ _ _ (@pt_not _ _ _ _ (@pt_val _ _ _ (@pe_callB _ _ _ _ _ _ _ _ _ call_isI rfl B.isinstance bo_isinstance (@pa_cons _ _ _ _ _ (pv 1) (@pa_cons _ _ _ _ _ (@pe_bltn _ _ (.ty "tuple") _ _ rfl B.tuple bo_tuple rfl (by decide) (by decide)) pa_nil (by rfl)) (by rfl)) (by decide) (by decide) (by rfl) (by rfl)) (by intro _ ; rfl))) (@pw_or1 _ _ _ _ (@pt_cmpR _ _ _ _ _ _ _ _ op_ne (@pe_callB _ _ _ _ _ _ _ _ _ call_lenU rfl B.len bo_len (@pa_cons _ _ _ _ _ (pv 1) pa_nil (by rfl)) (by decide) (by decide) (by rfl) (by rfl)) pe_int (@nomark _ _ (by decide) (by decide)))))) (@pss_one _ _ _ (@ps_ret _ _ _ _ pe_non)) pss_nil) (@pss_cons _ _ _ _ _ (@ps_if _ _ _ _ _ _ _ _ (@PW.pt _ _ _ (@pw_or _ _ _ _ _ _ _ (@pt_not _ _ _ _ (@pt_val _ _ _ (@pe_callB _ _ _ _ _ _ _ _ _ call_isI rfl B.isinstance bo_isinstance (@pa_cons _ _ _ _ _ (@pe_ix _ _ _ _ _ _ _ ix_U (pv 1) pe_int (fun _ _ => rfl)) (@pa_cons _ _ _ _ _ (@pe_bltn _ _ (.ty "str") _ _ rfl B.str bo_str rfl (by decide) (by decide)) pa_nil (by rfl)) (by rfl)) (by decide) (by decide) (by rfl) (by rfl)) (by intro _ ; rfl))) (@pw_or1 _ _ _ _ (@pt_cmpR _ _ _ _ _ _ _ _ op_notIn_seq (@pe_ix _ _ _ _ _ _ _ ix_U (pv 1) pe_int (fun _ _ => rfl)) (@pe_tup _ _ _ _ _ (@pa_cons _ _ _ _ _ pe_str (@pa_cons _ _ _ _ _ pe_str pa_nil (by rfl)) (by rfl))) (by with_unfolding_all rfl))))) (@pss_one _ _ _ (@ps_ret _ _ _ _ pe_non)) pss_nil) (@pss_cons _ _ _ _ _ (@ps_set _ _ (2) _ _ _ _ sc_l_come.nd rfl (by first | exact Or.inl rfl | exact Or.inr rfl) (@pe_cal _ _ _ _ _ _ _ _ _ _ C_l_part hr rfl (@pa_cons _ _ _ _ _ (pv 0) (@pa_cons _ _ _ _ _ (@pe_ix _ _ _ _ _ _ _ ix_U (pv 1) pe_int (fun _ _ => rfl)) (@pa_cons _ _ _ _ _ (@pe_ix _ _ _ _ _ _ _ ix_U (pv 1) pe_int (fun _ _ => rfl)) (@pa_cons _ _ _ _ _ pe_int pa_nil (by rfl)) (by rfl)) (by rfl)) (by rfl)) (by decide) (by rfl) (by rfl)) (by rfl) (by first | exact .inl rfl | exact .inr rfl | assumption)) (@pss_cons _ _ _ _ _ (@ps_set _ _ (3) _ _ _ _ sc_l_come.nd rfl (by first | exact Or.inl rfl | exact Or.inr rfl) (@pe_cal _ _ _ _ _ _ _ _ _ _ C_l_part hr rfl (@pa_cons _ _ _ _ _ (pv 0) (@pa_cons _ _ _ _ _ (@pe_ix _ _ _ _ _ _ _ ix_U (pv 1) pe_int (fun _ _ => rfl)) (@pa_cons _ _ _ _ _ (@pe_ix _ _ _ _ _ _ _ ix_U (pv 1) pe_int (fun _ _ => rfl)) (@pa_cons _ _ _ _ _ (@pe_ix _ _ _ _ _ _ _ ix_M (@pe_lst _ _ _ _ (@pa_cons _ _ _ _ _ pe_int (@pa_cons _ _ _ _ _ (@pe_un _ _ _ _ _ _ un_neg pe_int) pa_nil (by rfl)) (by rfl))) (@pe_callTy _ _ _ _ _ _ _ _ _ call_int1 rfl B.int bo_int (@pa_cons _ _ _ _ _ (@pe_cmpR _ _ _ _ _ _ _ _ op_eq (@pe_ix _ _ _ _ _ _ _ ix_U (pv 1) pe_int (fun _ _ => rfl)) pe_str (@nomark _ _ (by decide) (by decide))) pa_nil (by rfl)) (by decide) (by decide) (by rfl) (by rfl)) (fun _ _ => rfl)) pa_nil (by rfl)) (by rfl)) (by rfl)) (by rfl)) (by decide) (by rfl) (by rfl)) (by rfl) (by first | exact .inl rfl | exact .inr rfl | assumption)) (@pss_cons _ _ _ _ _ (@ps_if _ _ _ _ _ _ _ _ (@PW.pt _ _ _ (@pw_or _ _ _ _ _ _ _ (@pt_cmp _ _ _ _ _ _ (@pc_isN _ _ _ _ _ (pv 2)) (by first | exact nobehind _ ( by decide ) ( by decide ) | rfl)) (@pw_or1 _ _ _ _ (@pt_cmp _ _ _ _ _ _ (@pc_isN _ _ _ _ _ (pv 3)) (by first | exact nobehind _ ( by decide ) ( by decide ) | rfl))))) (@pss_one _ _ _ (@ps_ret _ _ _ _ pe_non)) pss_nil) (@pss_one _ _ _ (@ps_ret _ _ _ _ (@pe_comp0 _ _ _ _ _ _ _ _ (["_law_one", "_law_two"]) (2) ([]) _ _ _ rfl (@pi_zip _ _ _ _ _ _ _ _ _ rfl B.zip (@pa_cons _ _ _ _ _ (pv 2) (@pa_cons _ _ _ _ _ (pv 3) pa_nil (by rfl)) (by rfl)) (by rfl) (by rfl)) (fun nd C s H fp => ⟨(@pg_tupM _ _ _ _ _ 2 rfl (@pgs_cons _ _ _ _ _ (@pg_name _ _ (0) _ nd rfl (by first | exact Or.inl rfl | exact Or.inr rfl) (by first | exact .inl rfl | exact .inr rfl | assumption)) (@pgs_cons _ _ _ _ _ (@pg_name _ _ (1) _ nd rfl (by first | exact Or.inl rfl | exact Or.inr rfl) (by first | exact .inl rfl | exact .inr rfl | assumption)) pgs_nil (by rfl)) (by rfl)) (by rfl) (by rfl)), pn_nil, (@pe_op _ _ _ _ _ _ _ _ op_add (pv 0) (pv 1))⟩) (by decide +kernel) (by first | rfl | decide +kernel) (by first | rfl | decide +kernel) rfl (fun _ => rfl)))))))))), ?_⟩
  rw [show start ["_law_things_by", "_law_deed", "_law_first", "_law_second"] [.ref tb, .ref x] = [some (.ref tb), some (.ref x), none, none] from rfl]
  have hx' := hx
  unfold wTup at hx'
  (iterate 5 ((try (walk_at "WP")); (try (simp only [hx', Option.some.injEq, HO.tup.injEq, HO.lst.injEq, HO.dK.injEq, exists_eq_left', exists_eq_left])))); (try (walk_at "WP"))
  refine ⟨_, "tuple", .type "tuple", true, rfl, .tup hx', by unfold PySem.W.kitOne; rw [if_pos (by simp)], ?_⟩
  (iterate 5 ((try (walk_at "WP")); (try (simp only [hx', Option.some.injEq, HO.tup.injEq, HO.lst.injEq, HO.dK.injEq, exists_eq_left', exists_eq_left])))); (try (walk_at "WP"))
  rw [if_neg (by decide)]
  refine ⟨_, "str", .type "str", true, rfl, .str _, by unfold PySem.W.kitOne; rw [if_pos (by simp)], ?_⟩
  (iterate 5 ((try (walk_at "WP")); (try (simp only [hx', Option.some.injEq, HO.tup.injEq, HO.lst.injEq, HO.dK.injEq, exists_eq_left', exists_eq_left])))); (try (walk_at "WP"))
  intro tp ntp
  have s1 := same_new ntp (.tup [V.str (Str.ofString "sum"), V.str (Str.ofString "less")])
  have e1 : upd H tp (.tup [V.str (Str.ofString "sum"), V.str (Str.ofString "less")]) tp = some (.tup [V.str (Str.ofString "sum"), V.str (Str.ofString "less")]) := upd_same
  generalize upd H tp (.tup [V.str (Str.ofString "sum"), V.str (Str.ofString "less")]) = H1 at s1 e1 ⊢
  refine in_tup e1 rfl rfl ?_
  have hin : inV (V.str d.w) [V.str (Str.ofString "sum"), V.str (Str.ofString "less")] = true := by
    rcases hw with z | z <;> rw [z] <;> decide
  rw [if_pos rfl, hin]
  have hx1 := s1 _ _ hx'
  (iterate 5 ((try (walk_at "WP")); (try (simp only [hx1, Option.some.injEq, HO.tup.injEq, HO.lst.injEq, HO.dK.injEq, exists_eq_left', exists_eq_left])))); (try (walk_at "WP"))
  have ea := List.getElem?_eq_getElem (l := rs) (i := d.a) ha
  have eb := List.getElem?_eq_getElem (l := rs) (i := d.b) hb
  refine ⟨tb, ts, ex, rs, d.a, d.s, 1, rs.getD d.a [], rfl, s1 _ _ htb, hrs.same s1, by rw [getD_of ea]; exact ea, sa, .inl rfl, by rw [getD_of ea]; exact (hb9 _ (List.mem_of_getElem? ea)).1, by rw [getD_of ea]; exact (hb9 _ (List.mem_of_getElem? ea)).2, fun r1 H2 n1 s2' h1 => ?_⟩
  have s2 := s1.trans s2'
  have hx2 := s2 _ _ hx'
  (iterate 5 ((try (walk_at "WP")); (try (simp only [hx2, Option.some.injEq, HO.tup.injEq, HO.lst.injEq, HO.dK.injEq, exists_eq_left', exists_eq_left])))); (try (walk_at "WP"))
  refine ⟨_, rfl, fun lq nlq => ?_⟩
  have s3' := same_new nlq (.lst [V.int 1, V.int (-1)])
  have s3 := s2.trans s3'
  have hq3 : upd H2 lq (.lst [V.int 1, V.int (-1)]) lq = some (.lst [V.int 1, V.int (-1)]) := upd_same
  have h13 := s3' _ _ h1
  generalize upd H2 lq (.lst [V.int 1, V.int (-1)]) = H3 at s3 hq3 h13 ⊢
  have hx3 := s3 _ _ hx'
  (iterate 5 ((try (walk_at "WP")); (try (simp only [hx3, hq3, Option.some.injEq, HO.tup.injEq, HO.lst.injEq, HO.dK.injEq, exists_eq_left', exists_eq_left])))); (try (walk_at "WP"))
  have hat : atI [V.int 1, V.int (-1)] (if d.w = Str.ofString "less" then 1 else 0) = some (.int (sgW d.w)) := by
    rcases hw with z | z <;> rw [z] <;> decide
  have hsg : sgW d.w = 1 ∨ sgW d.w = -1 := by
    rcases hw with z | z <;> rw [z] <;> decide
  refine ⟨_, hat, ?_⟩
  refine ⟨tb, ts, ex, rs, d.b, d.t, _, rs.getD d.b [], rfl, s3 _ _ htb, hrs.same s3, by rw [getD_of eb]; exact eb, sb, hsg, by rw [getD_of eb]; exact (hb9 _ (List.mem_of_getElem? eb)).1, by rw [getD_of eb]; exact (hb9 _ (List.mem_of_getElem? eb)).2, fun r2 H4 n2 s4' h2 => ?_⟩
  have s4 := s3.trans s4'
  have h14 := s4' _ _ h13
  try walk_at "WP"
  have l12 : (rs.getD d.a []).length ≤ 12 := by rw [getD_of ea]; exact (hb9 _ (List.mem_of_getElem? ea)).1
  refine ⟨r1, r2, ⟨rfl, rfl⟩, _, SqL.of h14, _, SqL.of h2, ?_⟩
  refine comp_zip (SqL.of h14) (SqL.of h2) (by simp only [List.length_map]; omega) (by simp only [List.length_map]; omega) ((rowD rs d).map V.int) (by unfold rowD; simp only [List.length_map, List.length_zipWith]; omega) (fun i x' y' z' H' R hx hy hz s' hR => ?_) (fun acc H5 n5 s5 h5 => ?_)
  · obtain ⟨u, hu, rfl⟩ := map_at hx
    obtain ⟨v, hv, rfl⟩ := map_at hy
    rw [List.getElem?_map] at hu hv
    obtain ⟨u0, hu0, rfl⟩ := Option.map_eq_some_iff.mp hu
    obtain ⟨v0, hv0, rfl⟩ := Option.map_eq_some_iff.mp hv
    have hz' : z' = V.int (1 * mvI d.s u0 + sgW d.w * mvI d.t v0) := by
      unfold rowD at hz
      rw [List.getElem?_map, List.getElem?_zipWith, hu0, hv0] at hz
      rw [Int.one_mul]
      exact (Option.some.inj hz).symm
    subst hz'
    rw [show capV [] [some (V.ref tb), some (V.ref x), some (V.ref r1), some (V.ref r2)] = [] from rfl]
    try walk_at "WP"
    exact hR
  · exact q acc H5 (s4.free n5) (s4.trans s5) h5
end
section
variable {P : Program} {w : World} {K : PySem.W.Frag} {mg : Str → Option Value} {base : Heap}
def spGoalX (K : PySem.W.Frag) : Sp := fun vs H Q _ => ∃ (tb x : Addr) (ts : List V) (ex : List Addr) (rs : List (List Int)) (g : Go), vs = [.ref tb, .ref x] ∧ H tb = some (.lst ts) ∧ HRs H ex ts rs ∧ SqT K H x (gTp g) ∧ (g = ⟨0, 0, 0⟩ ∨ ((g.sg = 1 ∨ g.sg = -1) ∧ ShU g.sh (rs.getD g.th []))) ∧ g.th < rs.length ∧ (∀ r ∈ rs, r.length ≤ 12 ∧ ∀ n ∈ r, n.natAbs < 2 ^ 9000) ∧
  ∀ r H', H r = none → Same H H' → H' r = some (.lst ((outR rs g).map V.int)) → Q (.ref r) H'
theorem zeroV : ∀ row : List Int, (row.map V.int).filterMap (fun _ => some (V.int 0)) = (row.map fun x => (0 : Int) * mvI 0 x).map V.int
  | [] => rfl
  | a :: r => by
    rw [List.map_cons, List.map_cons, List.map_cons, Int.zero_mul, ← zeroV r]
    rfl
theorem ok_goalX (T : Txt K mg) : Cal P w K mg base 3 "_law_goal" ["_law_things_by", "_law_goal_here"] (spGoalX K) := by
  have B := T.bl
  have C_l_part := ok_partX (P := P) (w := w) (base := base) T
  have C_l_whole := (ok_wholeX (P := P) (w := w) (base := base) T).mono (k := 2) (by decide)
  refine mkCal T.t_l_goal sc_l_goal (fun vs H Q E h => ?_) (fun f cdv A outer s H vs Q E hr h => ?_)
  · obtain ⟨_, _, _, _, _, _, rfl, _⟩ := h
    rfl
  obtain ⟨tb, x, ts, ex, rs, g, rfl, htb, hrs, hx, hg, gl, hb9, q⟩ := h
  unfold gTp at hx
  refine ⟨_, ((@pss_cons _ _ _ _ _ (@ps_if _ _ _ _ _ _ _ _ (@PW.pt _ _ _ (@pw_or _ _ _ _ _ _ _ (@pt_not _ _ _ _ (@pt_val _ _ _ (@pe_callB _ _ _ _ _ _ _ _ _ call_isT rfl B.isinstance bo_isinstance (@pa_cons _ _ _ _ _ (pv 1) (@pa_cons _ _ _ _ _ (@pe_bltn _ _ (.ty "tuple") _ _ rfl B.tuple bo_tuple rfl (by decide) (by decide)) pa_nil (by rfl)) (by rfl)) (by decide) (by decide) (by rfl) (by rfl)) (by intro _ ; rfl))) (@pw_or _ _ _ _ _ _ _ (@pt_cmpR _ _ _ _ _ _ _ _ op_ne (@pe_callB _ _ _ _ _ _ _ _ _ call_len_seq rfl B.len bo_len (@pa_cons _ _ _ _ _ (pv 1) pa_nil (by rfl)) (by decide) (by decide) (by rfl) (by rfl)) pe_int (@nomark _ _ (by decide) (by decide))) (@pw_or1 _ _ _ _ (@pt_cmpR _ _ _ _ _ _ _ _ op_in_seq pe_bl (@pe_comp0 _ _ _ _ _ _ _ _ (["_law_part_here"]) (1) ([]) _ _ _ rfl (@pi_tup _ _ _ _ (pv 1)) (fun nd C s H fp => ⟨(@pg_name _ _ (0) _ nd rfl (by first | exact Or.inl rfl | exact Or.inr rfl) (by first | exact .inl rfl | exact .inr rfl | assumption)), pn_nil, (@pe_cal _ _ _ _ _ _ _ _ _ _ C_l_whole hr rfl (@pa_cons _ _ _ _ _ (pv 0) pa_nil (by rfl)) (by decide) (by rfl) (by rfl))⟩) (by decide +kernel) (by first | rfl | decide +kernel) (by first | rfl | decide +kernel) rfl (fun _ => rfl)) (by with_unfolding_all rfl)))))) (@pss_one _ _ _ (@ps_ret _ _ _ _ pe_non)) pss_nil) (@pss_cons _ _ _ _ _ (@ps_if _ _ _ _ _ _ _ _ (@pt_cmpR _ _ _ _ _ _ _ _ (@op_eqD _ _ hr) (pv 1) (@pe_tup _ _ _ _ _ (@pa_cons _ _ _ _ _ pe_int (@pa_cons _ _ _ _ _ pe_int (@pa_cons _ _ _ _ _ pe_int pa_nil (by rfl)) (by rfl)) (by rfl))) (@nomark _ _ (by decide) (by decide))) (@pss_one _ _ _ (@ps_ret _ _ _ _ (@pe_comp0 _ _ _ _ _ _ _ _ (["_law_number"]) (1) ([]) _ _ _ rfl (@pi_list _ _ _ _ (@pe_ix _ _ _ _ _ _ _ ix_M (pv 0) pe_int (fun _ _ => rfl))) (fun nd C s H fp => ⟨(@pg_name _ _ (0) _ nd rfl (by first | exact Or.inl rfl | exact Or.inr rfl) (by first | exact .inl rfl | exact .inr rfl | assumption)), pn_nil, pe_int⟩) (by decide +kernel) (by first | rfl | decide +kernel) (by first | rfl | decide +kernel) rfl (fun _ => rfl)))) pss_nil) (@pss_cons _ _ _ _ _ (@ps_if _ _ _ _ _ _ _ _ (@pt_cmpR _ _ _ _ _ _ _ _ op_notIn_seq (@pe_ix _ _ _ _ _ _ _ ix_tup (pv 1) pe_int (fun _ _ => rfl)) (@pe_tup _ _ _ _ _ (@pa_cons _ _ _ _ _ pe_int (@pa_cons _ _ _ _ _ (@pe_un _ _ _ _ _ _ un_neg pe_int) pa_nil (by rfl)) (by rfl))) (by with_unfolding_all rfl)) (@pss_one _ _ _ (@ps_ret _ _ _ _ pe_non)) pss_nil) (@pss_one _ _ _ (@ps_ret _ _ _ _ (@pe_cal _ _ _ _ _ _ _ _ _ _ C_l_part hr rfl (@pa_cons _ _ _ _ _ (pv 0) (@pa_cons _ _ _ _ _ (@pe_ix _ _ _ _ _ _ _ ix_tup (pv 1) pe_int (fun _ _ => rfl)) (@pa_cons _ _ _ _ _ (@pe_ix _ _ _ _ _ _ _ ix_tup (pv 1) pe_int (fun _ _ => rfl)) (@pa_cons _ _ _ _ _ (@pe_ix _ _ _ _ _ _ _ ix_tup (pv 1) pe_int (fun _ _ => rfl)) pa_nil (by rfl)) (by rfl)) (by rfl)) (by rfl)) (by decide) (by rfl) (by rfl)))))))), ?_⟩
  rw [show start ["_law_things_by", "_law_goal_here"] [.ref tb, .ref x] = [some (.ref tb), some (.ref x)] from rfl]
  try walk_at "WP"
  refine ⟨x, _, rfl, hx, ?_⟩
  try walk_at "WP"
  refine ⟨_, .inr hx, ?_⟩
  rw [if_neg (by simp)]
  refine ⟨⟨_, hx⟩, ?_⟩
  refine comp_T (f := fun _ => some (V.bl true)) hx (le_size (by show 3 ≤ 1000; decide)) (fun u H' R hu hS' hR => ?_) (fun acc hacc => ?_)
  · obtain ⟨n, rfl⟩ : ∃ n : Int, u = .int n := by
      rcases List.mem_cons.mp hu with z | z
      · exact ⟨_, z⟩
      rcases List.mem_cons.mp z with z | z
      · exact ⟨_, z⟩
      · exact ⟨_, List.mem_singleton.mp z⟩
    try walk_at "WP"
    exact ⟨n, rfl, hR⟩
  have s1 := same_new hacc (.lst [V.bl true, V.bl true, V.bl true])
  have e1 : upd H acc (.lst [V.bl true, V.bl true, V.bl true]) acc = some (.lst [V.bl true, V.bl true, V.bl true]) := upd_same
  show rIn K false (V.bl false) (V.ref acc) (upd H acc (.lst [V.bl true, V.bl true, V.bl true])) _
  generalize upd H acc (.lst [V.bl true, V.bl true, V.bl true]) = H1 at s1 e1 ⊢
  refine ⟨acc, _, rfl, .inl (SqL.of e1), rfl, rfl, ?_⟩
  rw [show (if false = true then !inV (V.bl false) [V.bl true, V.bl true, V.bl true] else inV (V.bl false) [V.bl true, V.bl true, V.bl true]) = false by decide]
  try walk_at "WP"
  intro tz ntz
  have s2' := same_new ntz (.tup [V.int 0, V.int 0, V.int 0])
  have s2 := s1.trans s2'
  refine eqTI (ns := [(g.th : Int), g.sh, g.sg]) (ms := [0, 0, 0]) (s2.seqT hx) (SqT.of upd_same) ?_
  generalize upd H1 tz (.tup [V.int 0, V.int 0, V.int 0]) = H2 at s2 ⊢
  refine ⟨_, rfl, ?_⟩
  have g0 : 0 < rs.length := by omega
  rcases hg with z | ⟨hsg, hsh⟩
  · subst z
    rw [if_pos (by decide)]
    have e0 := List.getElem?_eq_getElem (l := rs) (i := 0) g0
    obtain ⟨rp, r1, r2, _⟩ := hrs.at_ 0 _ e0
    have hrow := getD_of (d := []) e0
    have hm := List.mem_of_getElem? e0
    generalize rs[0] = row at e0 r2 hrow hm
    refine ⟨_, s2 _ _ htb, _, atI_nat (j := 0) r1, _, rfl, ⟨_, SqL.of (s2 _ _ r2)⟩, ?_⟩
    refine comp_L (f := fun _ => some (V.int 0)) (SqL.of (s2 _ _ r2)) (by rw [List.length_map]; exact le_big (by have := (hb9 row hm).1; omega)) (fun u H' R hu hS' hR => ?_) (fun l nl => ?_)
    · try walk_at "WP"
      exact hR
    · refine q l _ (s2.free nl) (s2.trans (same_new nl _)) ?_
      rw [upd_same]
      unfold outR
      show _ = some (HO.lst (((rs.getD 0 []).map fun x => (0 : Int) * mvI 0 x).map V.int))
      rw [hrow, zeroV]
  · have ns : ¬ [(g.th : Int), g.sh, g.sg] = [0, 0, 0] := by
      intro h
      injection h with _ h
      injection h with _ h
      injection h with h _
      rcases hsg with y | y <;> rw [y] at h <;> cases h
    rw [if_neg (by rw [decide_eq_true_eq]; exact ns)]
    refine ⟨_, s2.seqT hx, _, rfl, fun tp ntp => ?_⟩
    have s3' := same_new ntp (.tup [V.int 1, V.int (-1)])
    have s3 := s2.trans s3'
    refine in_tup upd_same rfl rfl ?_
    have hin : inV (V.int g.sg) [V.int 1, V.int (-1)] = true := by
      rcases hsg with z | z <;> rw [z] <;> decide
    rw [if_pos rfl, hin]
    generalize upd H2 tp (.tup [V.int 1, V.int (-1)]) = H3 at s3 ⊢
    refine ⟨_, rfl, ?_⟩
    rw [if_neg (by decide)]
    have hx3 := s3.seqT hx
    have ea := List.getElem?_eq_getElem (l := rs) (i := g.th) gl
    refine ⟨_, hx3, _, rfl, _, hx3, _, rfl, _, hx3, _, rfl, ?_⟩
    refine ⟨tb, ts, ex, rs, g.th, g.sh, g.sg, rs.getD g.th [], rfl, s3 _ _ htb, hrs.same s3, by rw [getD_of ea]; exact ea, hsh, hsg, by rw [getD_of ea]; exact (hb9 _ (List.mem_of_getElem? ea)).1, by rw [getD_of ea]; exact (hb9 _ (List.mem_of_getElem? ea)).2, fun r H4 n4 s4 h4 => q r H4 (s3.free n4) (s3.trans s4) h4⟩
end
section
variable {P : Program} {w : World} {K : PySem.W.Frag} {mg : Str → Option Value} {base : Heap}
theorem ok_outsX (T : Txt K mg) : Cal P w K mg base 4 "_law_outs" ["_law_web_here", "_law_ins"] (spOutsU K) := by
  have B := T.bl
  have C_l_come := ok_comeX (P := P) (w := w) (base := base) T
  have C_l_goal := ok_goalX (P := P) (w := w) (base := base) T
  have C_l_whole := (ok_wholeX (P := P) (w := w) (base := base) T).mono (k := 3) (by decide)
  refine mkCal T.t_l_outs sc_l_outs (fun vs H Q E h => ?_) (fun f cdv A outer s H vs Q E hr h => ?_)
  · obtain ⟨_, _, _, _, _, _, _, _, rfl, _⟩ := h
    rfl
  obtain ⟨x, dl, gl, ins, us, ds, os, gs, rfl, W, F, low, q⟩ := h
  have hx := W.tup
  have hd := W.dll
  have hg := W.gll
  have i1 := F.ok.i1
  have i2 := F.ok.i2
  have dl60 := F.ok.dl
  have ul := W.hds.len
  refine ⟨_, ((@pss_cons _ _ _ _ _ (@ps_if _ _ _ _ _ _ _ _ (@PW.pt _ _ _ (@pw_or _ _ _ _ _ _ _ (@pt_not _ _ _ _ (@pt_val _ _ _ (@pe_callB _ _ _ _ _ _ _ _ _ call_isI rfl B.isinstance bo_isinstance (@pa_cons _ _ _ _ _ (pv 0) (@pa_cons _ _ _ _ _ (@pe_bltn _ _ (.ty "tuple") _ _ rfl B.tuple bo_tuple rfl (by decide) (by decide)) pa_nil (by rfl)) (by rfl)) (by decide) (by decide) (by rfl) (by rfl)) (by intro _ ; rfl))) (@pw_or _ _ _ _ _ _ _ (@pt_cmpR _ _ _ _ _ _ _ _ op_ne (@pe_callB _ _ _ _ _ _ _ _ _ call_lenU rfl B.len bo_len (@pa_cons _ _ _ _ _ (pv 0) pa_nil (by rfl)) (by decide) (by decide) (by rfl) (by rfl)) pe_int (@nomark _ _ (by decide) (by decide))) (@pw_or _ _ _ _ _ _ _ (@pt_not _ _ _ _ (@pt_val _ _ _ (@pe_cal _ _ _ _ _ _ _ _ _ _ C_l_whole hr rfl (@pa_cons _ _ _ _ _ (@pe_ix _ _ _ _ _ _ _ ix_U (pv 0) pe_int (fun _ _ => rfl)) pa_nil (by rfl)) (by decide) (by rfl) (by rfl)) (by intro _ ; rfl))) (@pw_or1 _ _ _ _ (@pt_cmpR _ _ _ _ _ _ _ _ op_ne (@pe_ix _ _ _ _ _ _ _ ix_U (pv 0) pe_int (fun _ _ => rfl)) (pv 1) (@nomark _ _ (by decide) (by decide)))))))) (@pss_one _ _ _ (@ps_ret _ _ _ _ pe_non)) pss_nil) (@pss_cons _ _ _ _ _ (@ps_if _ _ _ _ _ _ _ _ (@PW.pt _ _ _ (@pw_or _ _ _ _ _ _ _ (@pt_not _ _ _ _ (@pt_val _ _ _ (@pe_callB _ _ _ _ _ _ _ _ _ call_isI rfl B.isinstance bo_isinstance (@pa_cons _ _ _ _ _ (@pe_ix _ _ _ _ _ _ _ ix_U (pv 0) pe_int (fun _ _ => rfl)) (@pa_cons _ _ _ _ _ (@pe_bltn _ _ (.ty "list") _ _ rfl B.list bo_list rfl (by decide) (by decide)) pa_nil (by rfl)) (by rfl)) (by decide) (by decide) (by rfl) (by rfl)) (by intro _ ; rfl))) (@pw_or1 _ _ _ _ (@pt_not _ _ _ _ (@pt_val _ _ _ (@pe_callB _ _ _ _ _ _ _ _ _ call_isI rfl B.isinstance bo_isinstance (@pa_cons _ _ _ _ _ (@pe_ix _ _ _ _ _ _ _ ix_U (pv 0) pe_int (fun _ _ => rfl)) (@pa_cons _ _ _ _ _ (@pe_bltn _ _ (.ty "list") _ _ rfl B.list bo_list rfl (by decide) (by decide)) pa_nil (by rfl)) (by rfl)) (by decide) (by decide) (by rfl) (by rfl)) (by intro _ ; rfl)))))) (@pss_one _ _ _ (@ps_ret _ _ _ _ pe_non)) pss_nil) (@pss_mid _ _ _ _ _ (@ps_set _ _ (2) _ _ _ _ sc_l_outs.nd rfl (by first | exact Or.inl rfl | exact Or.inr rfl) (@pe_compC _ _ _ _ _ _ _ _ (["_law_i", "_law_ins"]) (1) ([1]) _ _ _ rfl (@pi_range1 _ _ _ _ _ _ rfl B.range (@pa_cons _ _ _ _ _ (pv 1) pa_nil (by rfl)) (by rfl)) (fun nd C s H fp => ⟨(@pg_name _ _ (0) _ nd rfl (by first | exact Or.inl rfl | exact Or.inr rfl) (by first | exact .inl rfl | exact .inr rfl | assumption)), pn_nil, (@pe_comp0 _ _ _ _ _ _ _ _ (["_law_k", "_law_i"]) (1) ([0]) _ _ _ rfl (@pi_range1 _ _ _ _ _ _ rfl B.range (@pa_cons _ _ _ _ _ (pv 1) pa_nil (by rfl)) (by rfl)) (fun nd C s H fp => ⟨(@pg_name _ _ (0) _ nd rfl (by first | exact Or.inl rfl | exact Or.inr rfl) (by first | exact .inl rfl | exact .inr rfl | assumption)), pn_nil, (@pe_callTy _ _ _ _ _ _ _ _ _ call_int1 rfl B.int bo_int (@pa_cons _ _ _ _ _ (@pe_cmpR _ _ _ _ _ _ _ _ op_eq (pv 0) (pv 1) (@nomark _ _ (by decide) (by decide))) pa_nil (by rfl)) (by decide) (by decide) (by rfl) (by rfl))⟩) (by decide +kernel) (by first | rfl | decide +kernel) (by first | rfl | decide +kernel) rfl (fun _ => rfl))⟩) (by decide +kernel) (by first | rfl | decide +kernel) (by first | rfl | decide +kernel) rfl (fun _ => rfl)) (by rfl) (by first | exact .inl rfl | exact .inr rfl | assumption)) (@pss_mid _ _ _ _ _ (@ps_for _ _ _ _ _ _ _ _ PassesOwn.never rfl (@pi_list _ _ _ _ (@pe_ix _ _ _ _ _ _ _ ix_U (pv 0) pe_int (fun _ _ => rfl))) (@pg_name _ _ (3) _ sc_l_outs.nd rfl (by first | exact Or.inl rfl | exact Or.inr rfl) (by first | exact .inl rfl | exact .inr rfl | assumption)) (@pss_cons _ _ _ _ _ (@ps_expr _ _ _ _ (@pe_bm _ _ _ _ _ _ _ _ _ _ _ _ PySem.F.plainAttrs_list PySem.F.slot_list_append PySem.F.type_list_append mt_append (pv 2) (@pa_cons _ _ _ _ _ (@pe_cal _ _ _ _ _ _ _ _ _ _ C_l_come hr rfl (@pa_cons _ _ _ _ _ (pv 2) (@pa_cons _ _ _ _ _ (pv 3) pa_nil (by rfl)) (by rfl)) (by decide) (by rfl) (by rfl)) pa_nil (by rfl)) (by rfl) (by rfl) (by rfl) (by rfl) (by rfl)) (by rfl)) (@pss_one _ _ _ (@ps_if _ _ _ _ _ _ _ _ (@pt_cmp _ _ _ _ _ _ (@pc_isN _ _ _ _ _ (@pe_ix _ _ _ _ _ _ _ ix_M (pv 2) (@pe_un _ _ _ _ _ _ un_neg pe_int) (fun _ _ => rfl))) (by first | exact nobehind _ ( by decide ) ( by decide ) | rfl)) (@pss_one _ _ _ (@ps_ret _ _ _ _ pe_non)) pss_nil))) (by intro _ ; rfl)) (@pss_cons _ _ _ _ _ (@ps_setComp0 _ _ _ _ (4) _ _ _ _ _ _ _ (["_law_goal_here", "_law_things_by"]) (1) ([2]) _ _ _ rfl (@pi_list _ _ _ _ (@pe_ix _ _ _ _ _ _ _ ix_U (pv 0) pe_int (fun _ _ => rfl))) (fun nd C s H fp => ⟨(@pg_name _ _ (0) _ nd rfl (by first | exact Or.inl rfl | exact Or.inr rfl) (by first | exact .inl rfl | exact .inr rfl | assumption)), pn_nil, (@pe_cal _ _ _ _ _ _ _ _ _ _ C_l_goal hr rfl (@pa_cons _ _ _ _ _ (pv 1) (@pa_cons _ _ _ _ _ (pv 0) pa_nil (by rfl)) (by rfl)) (by decide) (by rfl) (by rfl))⟩) (by decide +kernel) (by first | rfl | decide +kernel) (by first | rfl | decide +kernel) rfl (fun _ => rfl) sc_l_outs.nd rfl (by first | exact Or.inl rfl | exact Or.inr rfl) (by first | exact .inl rfl | exact .inr rfl) rfl) (@pss_cons _ _ _ _ _ (@ps_if _ _ _ _ _ _ _ _ (@pt_cmpR _ _ _ _ _ _ _ _ (@op_inF _ _ hr) pe_non (pv 4) (by with_unfolding_all rfl)) (@pss_one _ _ _ (@ps_ret _ _ _ _ pe_non)) pss_nil) (@pss_one _ _ _ (@ps_ret _ _ _ _ (pv 4)))))))))), ?_⟩
  rw [show start ["_law_web_here", "_law_ins", "_law_things_by", "_law_deed", "_law_goals"] [.ref x, .int (ins : Int)] = [some (.ref x), some (.int (ins : Int)), none, none, none] from rfl]
  (iterate 5 ((try (walk_at "WP")); (try (simp only [isI_tt, isI_ll, hx, hd, hg, Option.some.injEq, HO.tup.injEq, HO.lst.injEq, HO.dK.injEq, exists_eq_left', exists_eq_left])))); (try (walk_at "WP"))
  refine ⟨_, rfl, ?_⟩
  (iterate 5 ((try (walk_at "WP")); (try (simp only [isI_tt, isI_ll, hx, hd, hg, Option.some.injEq, HO.tup.injEq, HO.lst.injEq, HO.dK.injEq, exists_eq_left', exists_eq_left])))); (try (walk_at "WP"))
  refine mid_of (fun σ H1 => ∃ (tb : Addr) (vs : List V), σ = [some (.ref x), some (.int ins), some (.ref tb), none, none] ∧ H tb = none ∧ Same H H1 ∧ H1 tb = some (.lst vs) ∧ HRs H1 [tb] vs ((List.range ins).map (unitRow ins))) (fun N hN => ?_) ?_
  · try walk_at "WP"
    refine ⟨by omega, by omega, ?_⟩
    rw [Int.toNat_natCast]
    refine comp_rows (by omega) (unitRow ins) [] (fun e he => by cases he) (fun i H' R hi s' hR => ?_) (fun tb vs H3 hn s3 h3 hr3 => ?_)
    · rw [show capV [1] [some (V.ref x), some (V.int (ins : Int)), none, none, none] = [some (.int ins)] from rfl]
      try walk_at "WP"
      refine ⟨by omega, by omega, ?_⟩
      rw [Int.toNat_natCast]
      refine comp_R (f := unV i) (le_size (by omega)) (fun y H5 R5 hy s5 hR5 => ?_) (fun acc hacc => ?_)
      · obtain ⟨k, hk, rfl⟩ := List.mem_map.mp hy
        rw [show capV [0] [some (V.int (0 + (i : Int))), some (V.int (ins : Int))] = [some (V.int (0 + (i : Int)))] from rfl]
        try walk_at "WP"
        rw [show (0 : Int) + (i : Int) = i by omega]
        exact hR5
      · rw [unV_map]
        exact hR acc _ hacc (same_new hacc _) upd_same
    · exact hN _ _ ⟨tb, vs, rfl, hn, s3, h3, hr3⟩
  rintro σ H1 ⟨tb, vs, rfl, ntb, s1, htb, hrs⟩
  have hx1 := s1 _ _ hx
  (iterate 5 ((try (walk_at "WP")); (try (simp only [hx1, Option.some.injEq, HO.tup.injEq, HO.lst.injEq, HO.dK.injEq, exists_eq_left', exists_eq_left])))); (try (walk_at "WP"))
  refine mid_of (fun σ H2 => ∃ (vs : List V) (o3 : Option V), σ = [some (.ref x), some (.int ins), some (.ref tb), o3, none] ∧ Same H H2 ∧ H2 tb = some (.lst vs) ∧ HRs H2 [tb] vs (rowsW ins ds)) (fun N hN => ?_) ?_
  · (iterate 5 ((try (walk_at "WP")); (try (simp only [hx1, Option.some.injEq, HO.tup.injEq, HO.lst.injEq, HO.dK.injEq, exists_eq_left', exists_eq_left])))); (try (walk_at "WP"))
    refine ⟨⟨_, SqL.of (s1 _ _ hd)⟩, ?_⟩
    refine forL (xs := us) (fun i σ H2 => ∃ (vs : List V) (o3 : Option V), σ = [some (.ref x), some (.int ins), some (.ref tb), o3, none] ∧ Same H H2 ∧ H2 tb = some (.lst vs) ∧ HRs H2 [tb] vs (rowsW ins (ds.take i))) ⟨vs, none, rfl, s1, htb, hrs⟩ ?_ ?_ ?_
    · rintro i σ H2 _ ⟨_, _, _, s2, _⟩
      exact SqL.of (s2 _ _ hd)
    · rintro i y σ H2 N2 hy ⟨vs, o3, rfl, s2, htb2, hrs2⟩ hN2
      have il : i < ds.length := by rw [← ul]; exact (List.getElem?_eq_some_iff.mp hy).1
      have ed := List.getElem?_eq_getElem (l := ds) (i := i) il
      obtain ⟨xd, e1, e2⟩ := W.hds.at_ i _ ed
      rw [hy] at e1
      cases e1
      generalize ds[i] = d at ed e2
      obtain ⟨ka, kb, kw⟩ := F.ok.dk i d ed
      obtain ⟨_, _, sa4, sb4⟩ := F.sh i d ed
      have lw := low.1 d (List.mem_of_getElem? ed)
      have sa : ShU d.s ((rowsW ins ds).getD d.a []) := ⟨lw.1, sa4.2.1⟩
      have sb : ShU d.t ((rowsW ins ds).getD d.b []) := ⟨lw.2, sb4.2.1⟩
      have tl : (rowsW ins (ds.take i)).length = ins + i := by rw [rowsW_len, List.length_take]; omega
      have len : ∀ j, j < ins + i → ((rowsW ins (ds.take i)).getD j []).length = ins := fun j hj => by
        have e := List.getElem?_eq_getElem (l := rowsW ins (ds.take i)) (i := j) (by omega)
        rw [getD_of e]
        exact F.wd _ (rowsW_sub _ (List.mem_of_getElem? e))
      try walk_at "WP"
      refine ⟨ty_list htb2, tb, xd, vs, [tb], rowsW ins (ds.take i), d, rfl, htb2, hrs2, s2 _ _ e2, kw, by omega, by omega, by rw [rowsW_takeD (by omega) ka]; exact sa, by rw [rowsW_takeD (by omega) kb]; exact sb, by rw [len _ ka, len _ kb], fun r hr => ⟨(F.rb r (rowsW_sub _ hr)).1, F.rb.lt (rowsW_sub _ hr) (by omega)⟩, fun r H3 nr s3 hr3 => ?_⟩
      have htb3 := s3 _ _ htb2
      have vl := hrs2.len
      have rtb : r ≠ tb := (ne_of_none htb2 nr).symm
      try walk_at "WP"
      refine ⟨vs, htb3, Nat.lt_of_lt_of_le (by omega : vs.length < 1000) (le_size (by decide)), ?_⟩
      refine ⟨_, atI_last _ _, ?_⟩
      try walk_at "WP"
      refine hN2 _ _ ⟨_, _, rfl, same_upd ntb (s2.trans s3), upd_same, ?_⟩
      rw [rowsW_take ed]
      exact ((hrs2.same s3).chg (by simp) (Chg.upd _)).snoc (by rw [upd_ne rtb]; exact hr3) (fun e he => by rw [List.mem_singleton.mp he]; exact rtb)
    · rintro σ H2 ⟨vs, o3, rfl, s2, htb2, hrs2⟩
      rw [ul, List.take_length] at hrs2
      exact hN _ _ ⟨vs, o3, rfl, s2, htb2, hrs2⟩
  rintro σ H2 ⟨vs, o3, rfl, s2, htb2, hrs2⟩
  have hx2 := s2 _ _ hx
  (iterate 5 ((try (walk_at "WP")); (try (simp only [hx2, Option.some.injEq, HO.tup.injEq, HO.lst.injEq, HO.dK.injEq, exists_eq_left', exists_eq_left])))); (try (walk_at "WP"))
  refine ⟨⟨_, SqL.of (s2 _ _ hg)⟩, ?_⟩
  refine comp_LLof (xs := gs) (s2 _ _ hg) W.hgs.len (by have := F.ok.gl; omega) (outR (rowsW ins ds)) (fun k v g H' R hv hgk s' hR => ?_) (fun acc H3 na s3 hL => ?_)
  · rw [show capV [2] [some (V.ref x), some (V.int (ins : Int)), some (V.ref tb), o3, none] = [some (.ref tb)] from rfl]
    obtain ⟨xg, e1, e2⟩ := W.hgs.at_ k g hgk
    rw [hv] at e1
    cases e1
    have hm := List.mem_of_getElem? hgk
    try walk_at "WP"
    exact ⟨tb, xg, vs, [tb], rowsW ins ds, g, rfl, s' _ _ htb2, hrs2.same s', (s2.trans s').seqT e2, (F.go g hm).imp id (fun z => ⟨z.1, low.2 g hm, z.2.2.1⟩), by rw [rowsW_len]; exact F.ok.gk g hm, fun r hr => ⟨(F.rb r hr).1, F.rb.lt hr (by omega)⟩, fun r H4 nr s4 h4 => hR r H4 nr s4 h4⟩
  try walk_at "WP"
  refine in_LL hL rfl ?_
  try walk_at "WP"
  exact q acc H3 (s2.free na) (s2.trans s3) hL
end

section
variable {P : Program} {w : World} {K : PySem.W.Frag} {mg : Str → Option Value} {base : Heap}
theorem ok_up (T : Txt K mg) : Cal P w K mg base 2 "_law_up" ["_law_pen_here"] (spUpU K) := by
  have B := T.bl
  have C_l_take := ok_ltake (P := P) (w := w) (base := base) T
  refine mkCal T.t_l_up sc_l_up (fun vs H Q E h => ?_) (fun f cdv A outer s H vs Q E hr h => ?_)
  · obtain ⟨_, _, _, _, rfl, _⟩ := h
    rfl
  obtain ⟨p, a, ns, c, rfl, hP, hS, h63, hc, q⟩ := h
  refine ⟨_, ((@pss_one _ _ _ (@ps_ret _ _ _ _ (@pe_ix _ _ _ _ _ _ _ ix_M (@pe_lst _ _ _ _ (@pa_cons _ _ _ _ _ pe_int (@pa_cons _ _ _ _ _ pe_int (@pa_cons _ _ _ _ _ pe_int (@pa_cons _ _ _ _ _ pe_int (@pa_cons _ _ _ _ _ (@pe_cal _ _ _ _ _ _ _ _ _ _ C_l_take hr rfl (@pa_cons _ _ _ _ _ (pv 0) (@pa_cons _ _ _ _ _ pe_int pa_nil (by rfl)) (by rfl)) (by decide) (by rfl) (by rfl)) (@pa_cons _ _ _ _ _ (@pe_cal _ _ _ _ _ _ _ _ _ _ C_l_take hr rfl (@pa_cons _ _ _ _ _ (pv 0) (@pa_cons _ _ _ _ _ pe_int pa_nil (by rfl)) (by rfl)) (by decide) (by rfl) (by rfl)) pa_nil (by rfl)) (by rfl)) (by rfl)) (by rfl)) (by rfl)) (by rfl))) (@pe_cal _ _ _ _ _ _ _ _ _ _ C_l_take hr rfl (@pa_cons _ _ _ _ _ (pv 0) (@pa_cons _ _ _ _ _ pe_int pa_nil (by rfl)) (by rfl)) (by decide) (by rfl) (by rfl)) (fun _ _ => rfl))))), ?_⟩
  rw [show start ["_law_pen_here"] [.ref p] = [some (.ref p)] from rfl]
  try walk_at "WP"
  refine ltake_ hP hS h63 (by omega) (by decide) (by decide) fun r0 H1 r00 r01 P1 S1 C1 => ?_
  try walk_at "WP"
  refine ltake_ P1 S1 h63 (by omega) (by decide) (by decide) fun r1 H2 r10 r11 P2 S2 C2 => ?_
  try walk_at "WP"
  intro e he
  have se := same_new he (.lst [V.int 0, V.int 0, V.int 1, V.int 2, V.int r0, V.int r1])
  refine ltake_ (P2.same se) (S2.same se) h63 (by omega) (by decide) (by decide) fun r2 H3 r20 r21 P3 S3 C3 => ?_
  have hH3 := C3 e _ (P2.ne he) upd_same
  (iterate 5 ((try (walk_at "WP")); (try (simp only [hH3, Option.some.injEq, HO.tup.injEq, HO.lst.injEq, HO.dK.injEq, exists_eq_left', exists_eq_left])))); (try (walk_at "WP"))
  have hat : ∃ u : Int, atI [V.int 0, V.int 0, V.int 1, V.int 2, V.int r0, V.int r1] r2 = some (.int u) ∧ 0 ≤ u ∧ u ≤ 40 := by
    have six : r2 = 0 ∨ r2 = 1 ∨ r2 = 2 ∨ r2 = 3 ∨ r2 = 4 ∨ r2 = 5 := by omega
    rcases six with z | z | z | z | z | z <;> subst z <;> exact ⟨_, rfl, by omega, by omega⟩
  obtain ⟨u, hu, u0, u1⟩ := hat
  exact ⟨_, hu, q u _ u0 u1 (P3.mono (by omega)) S3 (((C1.trans C2).trans se.chg).trans C3)⟩
theorem up_ {H : Hp} {p a : Addr} {ns : List Int} {c : Int} {Q : VK} {E : XK} (hP : LPen H p a c) (hS : Scr K H a ns) (h63 : ns.length ≤ 63) (hc : c ≤ 100000000)
    (q : ∀ (r : Int) H', 0 ≤ r → r ≤ 40 → LPen H' p a (c + 3) → Scr K H' a ns → Chg p H H' → Q (.int r) H') : spUpU K [.ref p] H Q E := ⟨p, a, ns, c, rfl, hP, hS, h63, hc, q⟩
theorem ok_webU (T : Txt K mg) : Cal P w K mg base 3 "_law_web" ["_law_pen_here"] (spWebU K) := by
  have B := T.bl
  have C_l_take := (ok_ltake (P := P) (w := w) (base := base) T).mono (k := 2) (by decide)
  have C_l_up := ok_up (P := P) (w := w) (base := base) T
  refine mkCal T.t_l_web sc_l_web (fun vs H Q E h => ?_) (fun f cdv A outer s H vs Q E hr h => ?_)
  · obtain ⟨_, _, _, _, rfl, _⟩ := h
    rfl
  obtain ⟨p, a, ns, c, rfl, hP, hS, h63, hc, q⟩ := h
  refine ⟨_, ((@pss_cons _ _ _ _ _ (@ps_set _ _ (1) _ _ _ _ sc_l_web.nd rfl (by first | exact Or.inl rfl | exact Or.inr rfl) (@pe_ix _ _ _ _ _ _ _ ix_M (@pe_lst _ _ _ _ (@pa_cons _ _ _ _ _ pe_int (@pa_cons _ _ _ _ _ pe_int (@pa_cons _ _ _ _ _ pe_int (@pa_cons _ _ _ _ _ (@pe_op _ _ _ _ _ _ _ _ op_add pe_int (@pe_cal _ _ _ _ _ _ _ _ _ _ C_l_take hr rfl (@pa_cons _ _ _ _ _ (pv 0) (@pa_cons _ _ _ _ _ pe_int pa_nil (by rfl)) (by rfl)) (by decide) (by rfl) (by rfl))) pa_nil (by rfl)) (by rfl)) (by rfl)) (by rfl))) (@pe_cal _ _ _ _ _ _ _ _ _ _ C_l_take hr rfl (@pa_cons _ _ _ _ _ (pv 0) (@pa_cons _ _ _ _ _ pe_int pa_nil (by rfl)) (by rfl)) (by decide) (by rfl) (by rfl)) (fun _ _ => rfl)) (by rfl) (by first | exact .inl rfl | exact .inr rfl | assumption)) (@pss_cons _ _ _ _ _ (@ps_set _ _ (2) _ _ _ _ sc_l_web.nd rfl (by first | exact Or.inl rfl | exact Or.inr rfl) (@pe_lst _ _ _ _ pa_nil) (by rfl) (by first | exact .inl rfl | exact .inr rfl | assumption)) (@pss_mid _ _ _ _ _ (@ps_for _ _ _ _ _ _ _ _ PassesOwn.never rfl (@pi_range1 _ _ _ _ _ _ rfl B.range (@pa_cons _ _ _ _ _ (@pe_cal _ _ _ _ _ _ _ _ _ _ C_l_take hr rfl (@pa_cons _ _ _ _ _ (pv 0) (@pa_cons _ _ _ _ _ (@pe_ix _ _ _ _ _ _ _ ix_M (@pe_lst _ _ _ _ (@pa_cons _ _ _ _ _ pe_int (@pa_cons _ _ _ _ _ pe_int (@pa_cons _ _ _ _ _ pe_int pa_nil (by rfl)) (by rfl)) (by rfl))) (@pe_cal _ _ _ _ _ _ _ _ _ _ C_l_take hr rfl (@pa_cons _ _ _ _ _ (pv 0) (@pa_cons _ _ _ _ _ pe_int pa_nil (by rfl)) (by rfl)) (by decide) (by rfl) (by rfl)) (fun _ _ => rfl)) pa_nil (by rfl)) (by rfl)) (by decide) (by rfl) (by rfl)) pa_nil (by rfl)) (by rfl)) (@pg_name _ _ (3) _ sc_l_web.nd rfl (by first | exact Or.inl rfl | exact Or.inr rfl) (by first | exact .inl rfl | exact .inr rfl | assumption)) (@pss_cons _ _ _ _ _ (@ps_set _ _ (4) _ _ _ _ sc_l_web.nd rfl (by first | exact Or.inl rfl | exact Or.inr rfl) (@pe_ix _ _ _ _ _ _ _ ix_M (@pe_lst _ _ _ _ (@pa_cons _ _ _ _ _ (@pe_cal _ _ _ _ _ _ _ _ _ _ C_l_take hr rfl (@pa_cons _ _ _ _ _ (pv 0) (@pa_cons _ _ _ _ _ (@pe_op _ _ _ _ _ _ _ _ op_add (pv 1) (pv 3)) pa_nil (by rfl)) (by rfl)) (by decide) (by rfl) (by rfl)) (@pa_cons _ _ _ _ _ (@pe_op _ _ _ _ _ _ _ _ op_sub (@pe_op _ _ _ _ _ _ _ _ op_add (pv 1) (pv 3)) pe_int) pa_nil (by rfl)) (by rfl))) (@pe_cal _ _ _ _ _ _ _ _ _ _ C_l_take hr rfl (@pa_cons _ _ _ _ _ (pv 0) (@pa_cons _ _ _ _ _ pe_int pa_nil (by rfl)) (by rfl)) (by decide) (by rfl) (by rfl)) (fun _ _ => rfl)) (by rfl) (by first | exact .inl rfl | exact .inr rfl | assumption)) (@pss_cons _ _ _ _ _ (@ps_set _ _ (5) _ _ _ _ sc_l_web.nd rfl (by first | exact Or.inl rfl | exact Or.inr rfl) (@pe_ix _ _ _ _ _ _ _ ix_M (@pe_lst _ _ _ _ (@pa_cons _ _ _ _ _ (@pe_cal _ _ _ _ _ _ _ _ _ _ C_l_take hr rfl (@pa_cons _ _ _ _ _ (pv 0) (@pa_cons _ _ _ _ _ (@pe_op _ _ _ _ _ _ _ _ op_add (pv 1) (pv 3)) pa_nil (by rfl)) (by rfl)) (by decide) (by rfl) (by rfl)) (@pa_cons _ _ _ _ _ (pv 4) pa_nil (by rfl)) (by rfl))) (@pe_callTy _ _ _ _ _ _ _ _ _ call_int1 rfl B.int bo_int (@pa_cons _ _ _ _ _ (@pe_cmpR _ _ _ _ _ _ _ _ op_eq (@pe_cal _ _ _ _ _ _ _ _ _ _ C_l_take hr rfl (@pa_cons _ _ _ _ _ (pv 0) (@pa_cons _ _ _ _ _ pe_int pa_nil (by rfl)) (by rfl)) (by decide) (by rfl) (by rfl)) pe_int (@nomark _ _ (by decide) (by decide))) pa_nil (by rfl)) (by decide) (by decide) (by rfl) (by rfl)) (fun _ _ => rfl)) (by rfl) (by first | exact .inl rfl | exact .inr rfl | assumption)) (@pss_one _ _ _ (@ps_expr _ _ _ _ (@pe_bm _ _ _ _ _ _ _ _ _ _ _ _ PySem.F.plainAttrs_list PySem.F.slot_list_append PySem.F.type_list_append mt_append (pv 2) (@pa_cons _ _ _ _ _ (@pe_tup _ _ _ _ _ (@pa_cons _ _ _ _ _ (@pe_ix _ _ _ _ _ _ _ ix_M (@pe_lst _ _ _ _ (@pa_cons _ _ _ _ _ pe_str (@pa_cons _ _ _ _ _ pe_str (@pa_cons _ _ _ _ _ pe_str pa_nil (by rfl)) (by rfl)) (by rfl))) (@pe_cal _ _ _ _ _ _ _ _ _ _ C_l_take hr rfl (@pa_cons _ _ _ _ _ (pv 0) (@pa_cons _ _ _ _ _ pe_int pa_nil (by rfl)) (by rfl)) (by decide) (by rfl) (by rfl)) (fun _ _ => rfl)) (@pa_cons _ _ _ _ _ (pv 4) (@pa_cons _ _ _ _ _ (@pe_cal _ _ _ _ _ _ _ _ _ _ C_l_up hr rfl (@pa_cons _ _ _ _ _ (pv 0) pa_nil (by rfl)) (by decide) (by rfl) (by rfl)) (@pa_cons _ _ _ _ _ (pv 5) (@pa_cons _ _ _ _ _ (@pe_cal _ _ _ _ _ _ _ _ _ _ C_l_up hr rfl (@pa_cons _ _ _ _ _ (pv 0) pa_nil (by rfl)) (by decide) (by rfl) (by rfl)) pa_nil (by rfl)) (by rfl)) (by rfl)) (by rfl)) (by rfl))) pa_nil (by rfl)) (by rfl) (by rfl) (by rfl) (by rfl) (by rfl)) (by rfl))))) (by intro _ ; rfl)) (@pss_cons _ _ _ _ _ (@ps_set _ _ (6) _ _ _ _ sc_l_web.nd rfl (by first | exact Or.inl rfl | exact Or.inr rfl) (@pe_lst _ _ _ _ pa_nil) (by rfl) (by first | exact .inl rfl | exact .inr rfl | assumption)) (@pss_cons _ _ _ _ _ (@ps_set _ _ (7) _ _ _ _ sc_l_web.nd rfl (by first | exact Or.inl rfl | exact Or.inr rfl) (@pe_ix _ _ _ _ _ _ _ ix_M (@pe_lst _ _ _ _ (@pa_cons _ _ _ _ _ pe_int (@pa_cons _ _ _ _ _ pe_int (@pa_cons _ _ _ _ _ pe_int (@pa_cons _ _ _ _ _ pe_int (@pa_cons _ _ _ _ _ pe_int (@pa_cons _ _ _ _ _ pe_int pa_nil (by rfl)) (by rfl)) (by rfl)) (by rfl)) (by rfl)) (by rfl))) (@pe_cal _ _ _ _ _ _ _ _ _ _ C_l_take hr rfl (@pa_cons _ _ _ _ _ (pv 0) (@pa_cons _ _ _ _ _ pe_int pa_nil (by rfl)) (by rfl)) (by decide) (by rfl) (by rfl)) (fun _ _ => rfl)) (by rfl) (by first | exact .inl rfl | exact .inr rfl | assumption)) (@pss_cons _ _ _ _ _ (@ps_for _ _ _ _ _ _ _ _ PassesOwn.never rfl (@pi_range1 _ _ _ _ _ _ rfl B.range (@pa_cons _ _ _ _ _ (@pe_op _ _ _ _ _ _ _ _ op_add pe_int (@pe_cal _ _ _ _ _ _ _ _ _ _ C_l_take hr rfl (@pa_cons _ _ _ _ _ (pv 0) (@pa_cons _ _ _ _ _ (@pe_ix _ _ _ _ _ _ _ ix_M (@pe_lst _ _ _ _ (@pa_cons _ _ _ _ _ pe_int (@pa_cons _ _ _ _ _ pe_int (@pa_cons _ _ _ _ _ pe_int pa_nil (by rfl)) (by rfl)) (by rfl))) (@pe_cal _ _ _ _ _ _ _ _ _ _ C_l_take hr rfl (@pa_cons _ _ _ _ _ (pv 0) (@pa_cons _ _ _ _ _ pe_int pa_nil (by rfl)) (by rfl)) (by decide) (by rfl) (by rfl)) (fun _ _ => rfl)) pa_nil (by rfl)) (by rfl)) (by decide) (by rfl) (by rfl))) pa_nil (by rfl)) (by rfl)) (@pg_name _ _ (3) _ sc_l_web.nd rfl (by first | exact Or.inl rfl | exact Or.inr rfl) (by first | exact .inl rfl | exact .inr rfl | assumption)) (@pss_cons _ _ _ _ _ (@ps_set _ _ (8) _ _ _ _ sc_l_web.nd rfl (by first | exact Or.inl rfl | exact Or.inr rfl) (@pe_ix _ _ _ _ _ _ _ ix_M (@pe_lst _ _ _ _ (@pa_cons _ _ _ _ _ (@pe_cal _ _ _ _ _ _ _ _ _ _ C_l_take hr rfl (@pa_cons _ _ _ _ _ (pv 0) (@pa_cons _ _ _ _ _ (@pe_op _ _ _ _ _ _ _ _ op_add (pv 1) (@pe_callB _ _ _ _ _ _ _ _ _ call_lenM rfl B.len bo_len (@pa_cons _ _ _ _ _ (pv 2) pa_nil (by rfl)) (by decide) (by decide) (by rfl) (by rfl))) pa_nil (by rfl)) (by rfl)) (by decide) (by rfl) (by rfl)) (@pa_cons _ _ _ _ _ (@pe_op _ _ _ _ _ _ _ _ op_sub (@pe_op _ _ _ _ _ _ _ _ op_add (pv 1) (@pe_callB _ _ _ _ _ _ _ _ _ call_lenM rfl B.len bo_len (@pa_cons _ _ _ _ _ (pv 2) pa_nil (by rfl)) (by decide) (by decide) (by rfl) (by rfl))) pe_int) pa_nil (by rfl)) (by rfl))) (@pe_cal _ _ _ _ _ _ _ _ _ _ C_l_take hr rfl (@pa_cons _ _ _ _ _ (pv 0) (@pa_cons _ _ _ _ _ pe_int pa_nil (by rfl)) (by rfl)) (by decide) (by rfl) (by rfl)) (fun _ _ => rfl)) (by rfl) (by first | exact .inl rfl | exact .inr rfl | assumption)) (@pss_cons _ _ _ _ _ (@ps_set _ _ (9) _ _ _ _ sc_l_web.nd rfl (by first | exact Or.inl rfl | exact Or.inr rfl) (@pe_tup _ _ _ _ _ (@pa_cons _ _ _ _ _ (pv 8) (@pa_cons _ _ _ _ _ (@pe_cal _ _ _ _ _ _ _ _ _ _ C_l_up hr rfl (@pa_cons _ _ _ _ _ (pv 0) pa_nil (by rfl)) (by decide) (by rfl) (by rfl)) (@pa_cons _ _ _ _ _ (@pe_ix _ _ _ _ _ _ _ ix_M (@pe_lst _ _ _ _ (@pa_cons _ _ _ _ _ pe_int (@pa_cons _ _ _ _ _ (@pe_un _ _ _ _ _ _ un_neg pe_int) pa_nil (by rfl)) (by rfl))) (@pe_cal _ _ _ _ _ _ _ _ _ _ C_l_take hr rfl (@pa_cons _ _ _ _ _ (pv 0) (@pa_cons _ _ _ _ _ pe_int pa_nil (by rfl)) (by rfl)) (by decide) (by rfl) (by rfl)) (fun _ _ => rfl)) pa_nil (by rfl)) (by rfl)) (by rfl))) (by rfl) (by first | exact .inl rfl | exact .inr rfl | assumption)) (@pss_one _ _ _ (@ps_expr _ _ _ _ (@pe_bm _ _ _ _ _ _ _ _ _ _ _ _ PySem.F.plainAttrs_list PySem.F.slot_list_append PySem.F.type_list_append mt_append (pv 6) (@pa_cons _ _ _ _ _ (@pe_ix _ _ _ _ _ _ _ ix_M (@pe_lst _ _ _ _ (@pa_cons _ _ _ _ _ (pv 9) (@pa_cons _ _ _ _ _ (@pe_tup _ _ _ _ _ (@pa_cons _ _ _ _ _ pe_int (@pa_cons _ _ _ _ _ pe_int (@pa_cons _ _ _ _ _ pe_int pa_nil (by rfl)) (by rfl)) (by rfl))) pa_nil (by rfl)) (by rfl))) (@pe_callTy _ _ _ _ _ _ _ _ _ call_int1 rfl B.int bo_int (@pa_cons _ _ _ _ _ (@pe_cmpR _ _ _ _ _ _ _ _ op_eq (@pe_cal _ _ _ _ _ _ _ _ _ _ C_l_take hr rfl (@pa_cons _ _ _ _ _ (pv 0) (@pa_cons _ _ _ _ _ (pv 7) pa_nil (by rfl)) (by rfl)) (by decide) (by rfl) (by rfl)) pe_int (@nomark _ _ (by decide) (by decide))) pa_nil (by rfl)) (by decide) (by decide) (by rfl) (by rfl)) (fun _ _ => rfl)) pa_nil (by rfl)) (by rfl) (by rfl) (by rfl) (by rfl) (by rfl)) (by rfl))))) (by intro _ ; rfl)) (@pss_one _ _ _ (@ps_ret _ _ _ _ (@pe_tup _ _ _ _ _ (@pa_cons _ _ _ _ _ (pv 1) (@pa_cons _ _ _ _ _ (pv 2) (@pa_cons _ _ _ _ _ (pv 6) pa_nil (by rfl)) (by rfl)) (by rfl)))))))))))), ?_⟩
  rw [show start ["_law_pen_here", "_law_ins", "_law_deeds", "_law_k", "_law_a", "_law_b", "_law_goals", "_law_share", "_law_thing", "_law_goal_here"] [.ref p] = [some (.ref p), none, none, none, none, none, none, none, none, none] from rfl]
  try walk_at "WP"
  refine ltake_ hP hS h63 (by omega) (by decide) (by decide) fun r1 H1 r10 r11 P1 S1 C1 => ?_
  try walk_at "WP"
  intro e he
  have se := same_new he (.lst [V.int 1, V.int 2, V.int 3, V.int (1 + r1)])
  refine ltake_ (P1.same se) (S1.same se) h63 (by omega) (by decide) (by decide) fun r2 H2 r20 r21 P2 S2 C2 => ?_
  have hH2 := C2 e _ (P1.ne he) upd_same
  (iterate 5 ((try (walk_at "WP")); (try (simp only [hH2, Option.some.injEq, HO.tup.injEq, HO.lst.injEq, HO.dK.injEq, exists_eq_left', exists_eq_left])))); (try (walk_at "WP"))
  have hat : ∃ u : Nat, atI [V.int 1, V.int 2, V.int 3, V.int (1 + r1)] r2 = some (.int u) ∧ 1 ≤ u ∧ u ≤ 12 := by
    have four : r2 = 0 ∨ r2 = 1 ∨ r2 = 2 ∨ r2 = 3 := by omega
    rcases four with z | z | z | z <;> subst z
    · exact ⟨1, rfl, by omega, by omega⟩
    · exact ⟨2, rfl, by omega, by omega⟩
    · exact ⟨3, rfl, by omega, by omega⟩
    · exact ⟨(1 + r1).toNat, by rw [Int.toNat_of_nonneg (by omega)]; rfl, by omega, by omega⟩
  obtain ⟨ins, hu, u0, u1⟩ := hat
  refine ⟨_, hu, ?_⟩
  try walk_at "WP"
  intro dl hdl
  have CC2 : Chg p H H2 := (C1.trans se.chg).trans C2
  have sd := same_new hdl (.lst [])
  have dlp : dl ≠ p := P2.ne hdl
  have I0 : DW H p ins dl 0 [] [] (upd H2 dl (.lst [])) := ⟨upd_same, hts_nil, rfl, fun j d h => by simp at h, CC2.trans sd.chg, CC2.new dlp hdl, dlp⟩
  have P4 := P2.same sd
  have S4 := S2.same sd
  generalize upd H2 dl (.lst []) = H4 at I0 P4 S4 ⊢
  refine mid_of (fun σ H5 => ∃ (k : Nat) (us : List V) (ds : List Wd) (o3 o4 o5 : Option V), σ = [some (.ref p), some (.int ins), some (.ref dl), o3, o4, o5, none, none, none, none] ∧ k ≤ 30 ∧ DW H p ins dl k us ds H5 ∧ LPen H5 p a (c + 10 + 100 * k) ∧ Scr K H5 a ns) (fun N hN => ?_) ?_
  · try walk_at "WP"
    intro e he
    have se := same_new he (.lst [V.int 3, V.int 9, V.int 31])
    refine ltake_ (P4.same se) (S4.same se) h63 (by omega) (by decide) (by decide) fun r3 H5 r30 r31 P5 S5 C5 => ?_
    have hH5 := C5 e _ (P4.ne he) upd_same
    (iterate 5 ((try (walk_at "WP")); (try (simp only [hH5, Option.some.injEq, HO.tup.injEq, HO.lst.injEq, HO.dK.injEq, exists_eq_left', exists_eq_left])))); (try (walk_at "WP"))
    have hat : ∃ u : Int, atI [V.int 3, V.int 9, V.int 31] r3 = some (.int u) ∧ 1 ≤ u ∧ u ≤ 31 := by
      have three : r3 = 0 ∨ r3 = 1 ∨ r3 = 2 := by omega
      rcases three with z | z | z <;> subst z <;> exact ⟨_, rfl, by omega, by omega⟩
    obtain ⟨u, hu, u2, u3⟩ := hat
    refine ⟨_, hu, ?_⟩
    refine ltake_ P5 S5 h63 (by omega) (by omega) (by omega) fun m H6 m0 m1 P6 S6 C6 => ?_
    try walk_at "WP"
    refine ⟨by omega, by omega, ?_⟩
    obtain ⟨n, rfl⟩ := Int.eq_ofNat_of_zero_le m0
    rw [Int.toNat_natCast]
    have I6 := ((I0.step P4 se.chg).step (P4.same se) C5).step P5 C6
    refine forR (fun k σ H7 => ∃ (us : List V) (ds : List Wd) (o3 o4 o5 : Option V), σ = [some (.ref p), some (.int ins), some (.ref dl), o3, o4, o5, none, none, none, none] ∧ DW H p ins dl k us ds H7 ∧ LPen H7 p a (c + 10 + 100 * k) ∧ Scr K H7 a ns)
      ⟨[], [], none, none, none, rfl, I6, P6.mono (by omega), S6⟩ ?_ ?_
    · rintro k σ H7 N2 hk ⟨us, ds, o3, o4, o5, rfl, I7, P7, S7⟩ hN2
      refine seq_inG fun R_ hR_ => ?_
      try walk_at "WP"
      refine ltake_ P7 S7 h63 (by omega) (by omega) (by omega) fun ra H8 ra0 ra1 P8 S8 C8 => ?_
      have I8 := I7.step P7 C8
      try walk_at "WP"
      intro e1 he1
      have s1 := same_new he1 (.lst [V.int ra, V.int ((ins : Int) + (0 + (k : Int)) - 1)])
      refine ltake_ (P8.same s1) (S8.same s1) h63 (by omega) (by decide) (by decide) fun r4 H9 r40 r41 P9 S9 C9 => ?_
      have hH9 := C9 e1 _ (P8.ne he1) upd_same
      have I9 := (I8.step P8 s1.chg).step (P8.same s1) C9
      (iterate 5 ((try (walk_at "WP")); (try (simp only [hH9, Option.some.injEq, HO.tup.injEq, HO.lst.injEq, HO.dK.injEq, exists_eq_left', exists_eq_left])))); (try (walk_at "WP"))
      have hav : ∃ ja : Nat, atI [V.int ra, V.int ((ins : Int) + (0 + (k : Int)) - 1)] r4 = some (.int ja) ∧ ja < ins + k := by
        have two : r4 = 0 ∨ r4 = 1 := by omega
        rcases two with z | z <;> subst z
        · exact ⟨ra.toNat, by rw [Int.toNat_of_nonneg ra0]; rfl, by omega⟩
        · exact ⟨ins + k - 1, by rw [show ((ins + k - 1 : Nat) : Int) = (ins : Int) + (0 + (k : Int)) - 1 by omega]; rfl, by omega⟩
      obtain ⟨ja, ha1, hja⟩ := hav
      refine ⟨_, ha1, ?_⟩
      (try (walk_at "WP")); (try (refine seq_out hR_ ?_)); (try (refine seq_in fun R_ hR_ => ?_)); (try (walk_at "WP"))
      refine ltake_ P9 S9 h63 (by omega) (by omega) (by omega) fun rb H10 rb0 rb1 P10 S10 C10 => ?_
      have I10 := I9.step P9 C10
      try walk_at "WP"
      intro e2 he2
      have s2 := same_new he2 (.lst [V.int rb, V.int (ja : Int)])
      refine ltake_ (P10.same s2) (S10.same s2) h63 (by omega) (by decide) (by decide) fun r5 H11 r50 r51 P11 S11 C11 => ?_
      have hH11 := C11 e2 _ (P10.ne he2) upd_same
      have I11 := (I10.step P10 s2.chg).step (P10.same s2) C11
      (iterate 5 ((try (walk_at "WP")); (try (simp only [hH11, Option.some.injEq, HO.tup.injEq, HO.lst.injEq, HO.dK.injEq, exists_eq_left', exists_eq_left])))); (try (walk_at "WP"))
      have hbv : ∃ jb : Nat, atI [V.int rb, V.int (ja : Int)] (if r5 = 0 then 1 else 0) = some (.int jb) ∧ jb < ins + k := by
        by_cases z : r5 = 0
        · rw [if_pos z]; exact ⟨ja, rfl, hja⟩
        · rw [if_neg z]; exact ⟨rb.toNat, by rw [Int.toNat_of_nonneg rb0]; rfl, by omega⟩
      obtain ⟨jb, hb1, hjb⟩ := hbv
      refine ⟨_, hb1, ?_⟩
      have hD11 := I11.dll
      (try (walk_at "WP")); (try (refine seq_out hR_ ?_)); (try (refine seq_in fun R_ hR_ => ?_)); (try (walk_at "WP"))
      refine ⟨ty_list hD11, fun e3 he3 => ?_⟩
      have s3 := same_new he3 (.lst [V.str (Str.ofString "less"), V.str (Str.ofString "sum"), V.str (Str.ofString "less")])
      refine ltake_ (P11.same s3) (S11.same s3) h63 (by omega) (by decide) (by decide) fun r6 H13 r60 r61 P13 S13 C13 => ?_
      have hH13 := C13 e3 _ (P11.ne he3) upd_same
      have I13 := (I11.step P11 s3.chg).step (P11.same s3) C13
      (iterate 5 ((try (walk_at "WP")); (try (simp only [hH13, Option.some.injEq, HO.tup.injEq, HO.lst.injEq, HO.dK.injEq, exists_eq_left', exists_eq_left])))); (try (walk_at "WP"))
      have hw : ∃ wd : Str, atI [V.str (Str.ofString "less"), V.str (Str.ofString "sum"), V.str (Str.ofString "less")] r6 = some (.str wd) ∧ (wd = "sum" ∨ wd = "less") := by
        have three : r6 = 0 ∨ r6 = 1 ∨ r6 = 2 := by omega
        rcases three with z | z | z <;> subst z
        · exact ⟨_, rfl, .inr rfl⟩
        · exact ⟨_, rfl, .inl rfl⟩
        · exact ⟨_, rfl, .inr rfl⟩
      obtain ⟨wd, hwd, hws⟩ := hw
      refine ⟨_, hwd, ?_⟩
      try walk_at "WP"
      refine up_ P13 S13 h63 (by omega) fun sa H14 sa0 sa1 P14 S14 C14 => ?_
      have I14 := I13.step P13 C14
      try walk_at "WP"
      refine up_ P14 S14 h63 (by omega) fun sb H15 sb0 sb1 P15 S15 C15 => ?_
      have I15 := I14.step P14 C15
      try walk_at "WP"
      intro x hx
      have sx := same_new hx (.tup [V.str wd, V.int (ja : Int), V.int sa, V.int (jb : Int), V.int sb])
      have hx15 : (upd H15 x (.tup [V.str wd, V.int (ja : Int), V.int sa, V.int (jb : Int), V.int sb])) x = some (.tup (wTup ⟨wd, ja, sa, jb, sb⟩)) := upd_same
      have I16 := I15.step P15 sx.chg
      have P16 := P15.same sx
      have S16 := S15.same sx
      generalize upd H15 x (.tup [V.str wd, V.int (ja : Int), V.int sa, V.int (jb : Int), V.int sb]) = H16 at I16 P16 S16 hx15 ⊢
      have hul : us.length = k := by rw [I16.hds.len, I16.dlen]
      have hD16 := I16.dll
      (iterate 5 ((try (walk_at "WP")); (try (simp only [hD16, Option.some.injEq, HO.tup.injEq, HO.lst.injEq, HO.dK.injEq, exists_eq_left', exists_eq_left])))); (try (walk_at "WP"))
      refine ⟨lt_big (by omega), ?_⟩
      have Ifin := I16.app hx15 ⟨hja, hjb, hws, sa0, sa1, sb0, sb1⟩
      refine hN2 _ _ ⟨_, _, _, _, _, rfl, Ifin, (P16.mono (by omega)).chg (q := dl) I16.dp.symm (Chg.upd _), S16.chg hD16 (Chg.upd _)⟩
    · rintro σ H7 ⟨us, ds, o3, o4, o5, rfl, I7, P7, S7⟩
      exact hN _ _ ⟨n, us, ds, o3, o4, o5, rfl, by omega, I7, P7, S7⟩
  · rintro σ H5 ⟨kk, us, ds, o3, o4, o5, rfl, hkk, I5, P5, S5⟩
    try walk_at "WP"
    intro gl hgl
    have sg := same_new hgl (.lst [])
    have P6 := P5.same sg
    have S6 := S5.same sg
    have glp : gl ≠ p := P5.ne hgl
    have gld : gl ≠ dl := (ne_of_none I5.dll hgl).symm
    have I6 := I5.step P5 sg.chg
    have G6 : GW H p gl (ins + ds.length) 0 [] [] (upd H5 gl (.lst [])) := ⟨upd_same, hts_nil, rfl, (fun g h => by cases h), I5.chg.new glp hgl, glp⟩
    generalize upd H5 gl (.lst []) = H6 at I6 G6 P6 S6 ⊢
    try walk_at "WP"
    intro e0 he0
    have se0 := same_new he0 (.lst [V.int 4, V.int 4, V.int 4, V.int 4, V.int 4, V.int 1])
    refine ltake_ (P6.same se0) (S6.same se0) h63 (by omega) (by decide) (by decide) fun r2 H7 r20 r21 P7 S7 C7 => ?_
    have hH7 := C7 e0 _ (P6.ne he0) upd_same
    have I7 := (I6.step P6 se0.chg).step (P6.same se0) C7
    have G7 := (G6.step P6 se0.chg).step (P6.same se0) C7
    (iterate 5 ((try (walk_at "WP")); (try (simp only [hH7, Option.some.injEq, HO.tup.injEq, HO.lst.injEq, HO.dK.injEq, exists_eq_left', exists_eq_left])))); (try (walk_at "WP"))
    have hsh : ∃ u : Int, atI [V.int 4, V.int 4, V.int 4, V.int 4, V.int 4, V.int 1] r2 = some (.int u) ∧ 1 ≤ u ∧ u ≤ 4 := by
      have six : r2 = 0 ∨ r2 = 1 ∨ r2 = 2 ∨ r2 = 3 ∨ r2 = 4 ∨ r2 = 5 := by omega
      rcases six with z | z | z | z | z | z <;> subst z <;> exact ⟨_, rfl, by omega, by omega⟩
    obtain ⟨share, hshare, sh1, sh2⟩ := hsh
    refine ⟨_, hshare, ?_⟩
    try walk_at "WP"
    intro e he
    have se := same_new he (.lst [V.int 2, V.int 4, V.int 12])
    refine ltake_ (P7.same se) (S7.same se) h63 (by omega) (by decide) (by decide) fun r3 H7b r30 r31 P7b S7b C7b => ?_
    have hH8 := C7b e _ (P7.ne he) upd_same
    (iterate 5 ((try (walk_at "WP")); (try (simp only [hH8, Option.some.injEq, HO.tup.injEq, HO.lst.injEq, HO.dK.injEq, exists_eq_left', exists_eq_left])))); (try (walk_at "WP"))
    have hat : ∃ u : Int, atI [V.int 2, V.int 4, V.int 12] r3 = some (.int u) ∧ 1 ≤ u ∧ u ≤ 12 := by
      have three : r3 = 0 ∨ r3 = 1 ∨ r3 = 2 := by omega
      rcases three with z | z | z <;> subst z <;> exact ⟨_, rfl, by omega, by omega⟩
    obtain ⟨u, hu, u2, u3⟩ := hat
    refine ⟨_, hu, ?_⟩
    refine ltake_ P7b S7b h63 (by omega) (by omega) (by omega) fun m H8 m0 m1 P8 S8 C8 => ?_
    obtain ⟨n0, rfl⟩ := Int.eq_ofNat_of_zero_le m0
    try walk_at "WP"
    refine ⟨by omega, by omega, ?_⟩
    rw [show ((1 : Int) + (n0 : Int)).toNat = 1 + n0 by omega]
    have I8 := ((I7.step P7 se.chg).step (P7.same se) C7b).step P7b C8
    have G8 := ((G7.step P7 se.chg).step (P7.same se) C7b).step P7b C8
    refine forR (fun j σ H9 => ∃ (os : List V) (gs : List Go) (o3 o8 o9 : Option V), σ = [some (.ref p), some (.int ins), some (.ref dl), o3, o4, o5, some (.ref gl), some (.int share), o8, o9] ∧ DW H p ins dl kk us ds H9 ∧ GW H p gl (ins + ds.length) j os gs H9 ∧ LPen H9 p a (c + 7000 + 100 * j) ∧ Scr K H9 a ns)
      ⟨[], [], _, none, none, rfl, I8, G8, P8.mono (by omega), S8⟩ ?_ ?_
    · rintro j σ H9 N2 hj ⟨os, gs, o3, o8, o9, rfl, I9, G9, P9, S9⟩ hN2
      have hD9 := I9.dll
      have hvl : us.length = kk := by rw [I9.hds.len, I9.dlen]
      have dsl := I9.dlen
      refine seq_inG fun R_ hR_ => ?_
      (iterate 5 ((try (walk_at "WP")); (try (simp only [hD9, Option.some.injEq, HO.tup.injEq, HO.lst.injEq, HO.dK.injEq, exists_eq_left', exists_eq_left])))); (try (walk_at "WP"))
      refine ltake_ P9 S9 h63 (by omega) (by omega) (by omega) fun ra H9a ra0 ra1 P9a S9a C9a => ?_
      have I9a := I9.step P9 C9a
      have G9a := G9.step P9 C9a
      have hD9a := I9a.dll
      (iterate 5 ((try (walk_at "WP")); (try (simp only [hD9a, Option.some.injEq, HO.tup.injEq, HO.lst.injEq, HO.dK.injEq, exists_eq_left', exists_eq_left])))); (try (walk_at "WP"))
      intro e1 he1
      have s1 := same_new he1 (.lst [V.int ra, V.int ((ins : Int) + ((us.length : Nat) : Int) - 1)])
      refine ltake_ (P9a.same s1) (S9a.same s1) h63 (by omega) (by decide) (by decide) fun r4 H10 r40 r41 P10 S10 C10 => ?_
      have hH10 := C10 e1 _ (P9a.ne he1) upd_same
      have I10 := (I9a.step P9a s1.chg).step (P9a.same s1) C10
      have G10 := (G9a.step P9a s1.chg).step (P9a.same s1) C10
      (iterate 5 ((try (walk_at "WP")); (try (simp only [hH10, Option.some.injEq, HO.tup.injEq, HO.lst.injEq, HO.dK.injEq, exists_eq_left', exists_eq_left])))); (try (walk_at "WP"))
      have hav : ∃ th : Nat, atI [V.int ra, V.int ((ins : Int) + ((us.length : Nat) : Int) - 1)] r4 = some (.int th) ∧ th < ins + ds.length := by
        have two : r4 = 0 ∨ r4 = 1 := by omega
        rcases two with z | z <;> subst z
        · exact ⟨ra.toNat, by rw [Int.toNat_of_nonneg ra0]; rfl, by omega⟩
        · exact ⟨ins + kk - 1, by rw [show ((ins + kk - 1 : Nat) : Int) = (ins : Int) + ((us.length : Nat) : Int) - 1 by omega]; rfl, by omega⟩
      obtain ⟨th, hth1, hth⟩ := hav
      refine ⟨_, hth1, ?_⟩
      (try (walk_at "WP")); (try (refine seq_out hR_ ?_)); (try (refine seq_in fun R_ hR_ => ?_)); (try (walk_at "WP"))
      refine up_ P10 S10 h63 (by omega) fun sa H11 sa0 sa1 P11 S11 C11 => ?_
      have I11 := I10.step P10 C11
      have G11 := G10.step P10 C11
      try walk_at "WP"
      intro e3 he3
      have s3 := same_new he3 (.lst [V.int 1, V.int (-1)])
      refine ltake_ (P11.same s3) (S11.same s3) h63 (by omega) (by decide) (by decide) fun r5 H12 r50 r51 P12 S12 C12 => ?_
      have hH12 := C12 e3 _ (P11.ne he3) upd_same
      have I12 := (I11.step P11 s3.chg).step (P11.same s3) C12
      have G12 := (G11.step P11 s3.chg).step (P11.same s3) C12
      (iterate 5 ((try (walk_at "WP")); (try (simp only [hH12, Option.some.injEq, HO.tup.injEq, HO.lst.injEq, HO.dK.injEq, exists_eq_left', exists_eq_left])))); (try (walk_at "WP"))
      have hsg : ∃ g : Int, atI [V.int 1, V.int (-1)] r5 = some (.int g) ∧ (g = 1 ∨ g = -1) := by
        have two : r5 = 0 ∨ r5 = 1 := by omega
        rcases two with z | z <;> subst z
        · exact ⟨1, rfl, .inl rfl⟩
        · exact ⟨-1, rfl, .inr rfl⟩
      obtain ⟨g, hg, hg0⟩ := hsg
      refine ⟨_, hg, ?_⟩
      try walk_at "WP"
      intro t1 ht1
      have s4 := same_new ht1 (.tup [V.int (th : Int), V.int sa, V.int g])
      have h1t : (upd H12 t1 (.tup [V.int (th : Int), V.int sa, V.int g])) t1 = some (.tup (gTp ⟨th, sa, g⟩)) := upd_same
      have I13 := I12.step P12 s4.chg
      have G13 := G12.step P12 s4.chg
      have P13 := P12.same s4
      have S13 := S12.same s4
      generalize upd H12 t1 (.tup [V.int (th : Int), V.int sa, V.int g]) = H13 at I13 G13 P13 S13 h1t ⊢
      (try (walk_at "WP")); (try (refine seq_out hR_ ?_)); (try (refine seq_in fun R_ hR_ => ?_)); (try (walk_at "WP"))
      refine ⟨ty_list G13.gll, fun t2 ht2 => ?_⟩
      have s5 := same_new ht2 (.tup [V.int 0, V.int 0, V.int 0])
      have h2t : (upd H13 t2 (.tup [V.int 0, V.int 0, V.int 0])) t2 = some (.tup (gTp g0)) := upd_same
      have I14 := I13.step P13 s5.chg
      have G14 := G13.step P13 s5.chg
      have P14 := P13.same s5
      have S14 := S13.same s5
      have h1t := s5 _ _ h1t
      generalize upd H13 t2 (.tup [V.int 0, V.int 0, V.int 0]) = H14 at I14 G14 P14 S14 h1t h2t ⊢
      intro e5 he5
      have s6 := same_new he5 (.lst [V.ref t1, V.ref t2])
      refine ltake_ (P14.same s6) (S14.same s6) h63 (by omega) (by omega) (by omega) fun r6 H15 r60 r61 P15 S15 C15 => ?_
      have hH15 := C15 e5 _ (P14.ne he5) upd_same
      have I15 := (I14.step P14 s6.chg).step (P14.same s6) C15
      have G15 := (G14.step P14 s6.chg).step (P14.same s6) C15
      obtain ⟨pl, hpl⟩ := (P14.same s6).lst
      have h1t := C15 _ _ (ne_of (s6 _ _ h1t) hpl (by intro z; cases z)) (s6 _ _ h1t)
      have h2t := C15 _ _ (ne_of (s6 _ _ h2t) hpl (by intro z; cases z)) (s6 _ _ h2t)
      (iterate 5 ((try (walk_at "WP")); (try (simp only [hH15, Option.some.injEq, HO.tup.injEq, HO.lst.injEq, HO.dK.injEq, exists_eq_left', exists_eq_left])))); (try (walk_at "WP"))
      have hsel : ∃ (x : Addr) (g' : Go), atI [V.ref t1, V.ref t2] (if r6 = 0 then 1 else 0) = some (.ref x) ∧ H15 x = some (.tup (gTp g')) ∧ GOkU (ins + ds.length) g' := by
        by_cases z : r6 = 0
        · rw [if_pos z]; exact ⟨t2, g0, rfl, h2t, by show 0 < ins + ds.length; omega, Int.le_refl 0, by decide, .inl rfl⟩
        · rw [if_neg z]; exact ⟨t1, ⟨th, sa, g⟩, rfl, h1t, hth, sa0, sa1, .inr hg0⟩
      obtain ⟨x, g', hx1, hx2, hx3⟩ := hsel
      have hol : os.length = j := by rw [G15.hgs.len, G15.glen]
      have hG15 := G15.gll
      refine ⟨_, hx1, os, hG15, lt_big (by omega), ?_⟩
      exact hN2 _ _ ⟨_, _, _, _, _, rfl, I15.upd hG15 G15.ngl gld, G15.app hx2 hx3, (P15.mono (by omega)).chg (q := gl) G15.gp.symm (Chg.upd _), S15.chg hG15 (Chg.upd _)⟩
    · rintro σ H9 ⟨os, gs, o3, o8, o9, rfl, I9, G9, P9, S9⟩
      try walk_at "WP"
      intro w0 hw0
      have sw := same_new hw0 (.tup [V.int (ins : Int), V.ref dl, V.ref gl])
      have kd := I9.dlen
      have gd := G9.glen
      exact q w0 dl gl ins us ds os gs _ _ _ (I9.chg.new (P9.ne hw0) hw0) I9.ndl G9.ngl gld.symm ⟨upd_same, sw _ _ I9.dll, I9.hds.same sw, sw _ _ G9.gll, G9.hgs.same sw⟩ (tw_of u0 u1 (by omega) (by omega) I9.dk G9.gk) (by omega) (by omega) ((P9.same sw).mono (by omega)) (S9.same sw) (I9.chg.trans sw.chg)
end

section
variable {P : Program} {w : World} {K : PySem.W.Frag} {mg : Str → Option Value} {base : Heap}
theorem ok_mostU (T : Txt K mg) : Cal P w K mg base 1 "_law_most" ["_law_web_here"] (spMostU K) := by
  have B := T.bl
  refine mkCal T.t_l_most sc_l_most (fun vs H Q E h => ?_) (fun f cdv A outer s H vs Q E hr h => ?_)
  · obtain ⟨_, _, _, _, _, _, _, _, rfl, _⟩ := h
    rfl
  obtain ⟨x, dl, gl, ins, us, ds, os, gs, rfl, W, ok, q⟩ := h
  have hx := W.tup
  have ol := W.hgs.len
  have ul := W.hds.len
  have d60 := ok.dl
  have g12 := ok.gl
  have i12 := ok.i2
  refine ⟨_, ((@pss_cons _ _ _ _ _ (@ps_asg _ _ _ _ _ _ (pv 0) (@pg_tupM _ _ _ _ _ 3 rfl (@pgs_cons _ _ _ _ _ (@pg_name _ _ (1) _ sc_l_most.nd rfl (by first | exact Or.inl rfl | exact Or.inr rfl) (by first | exact .inl rfl | exact .inr rfl | assumption)) (@pgs_cons _ _ _ _ _ (@pg_name _ _ (2) _ sc_l_most.nd rfl (by first | exact Or.inl rfl | exact Or.inr rfl) (by first | exact .inl rfl | exact .inr rfl | assumption)) (@pgs_cons _ _ _ _ _ (@pg_name _ _ (3) _ sc_l_most.nd rfl (by first | exact Or.inl rfl | exact Or.inr rfl) (by first | exact .inl rfl | exact .inr rfl | assumption)) pgs_nil (by rfl)) (by rfl)) (by rfl)) (by rfl) (by rfl)) (by rfl) (by rfl) (by rfl)) (@pss_cons _ _ _ _ _ (@ps_set _ _ (4) _ _ _ _ sc_l_most.nd rfl (by first | exact Or.inl rfl | exact Or.inr rfl) pe_dnewK (by rfl) (by first | exact .inl rfl | exact .inr rfl | assumption)) (@pss_mid _ _ _ _ _ (@ps_for _ _ _ _ _ _ _ _ PassesOwn.never rfl (@pi_list _ _ _ _ (pv 3)) (@pg_tupK _ K _ _ _ _ 3 rfl (@pgs_cons _ _ _ _ _ (@pg_name _ _ (5) _ sc_l_most.nd rfl (by first | exact Or.inl rfl | exact Or.inr rfl) (by first | exact .inl rfl | exact .inr rfl | assumption)) (@pgs_cons _ _ _ _ _ (@pg_name _ _ (6) _ sc_l_most.nd rfl (by first | exact Or.inl rfl | exact Or.inr rfl) (by first | exact .inl rfl | exact .inr rfl | assumption)) (@pgs_cons _ _ _ _ _ (@pg_name _ _ (7) _ sc_l_most.nd rfl (by first | exact Or.inl rfl | exact Or.inr rfl) (by first | exact .inl rfl | exact .inr rfl | assumption)) pgs_nil (by rfl)) (by rfl)) (by rfl)) (by rfl) (by rfl) (by rfl)) (@pss_one _ _ _ (@ps_if _ _ _ _ _ _ _ _ (@pt_cmpR _ _ _ _ _ _ _ _ op_ne (pv 7) pe_int (@nomark _ _ (by decide) (by decide))) (@pss_one _ _ _ (@ps_dpM _ _ _ _ _ _ _ _ _ (@hu_of _ _ hr) (pv 4) (pv 5) pe_bl rfl)) pss_nil)) (by intro _ ; rfl)) (@pss_mid _ _ _ _ _ (@ps_for _ _ _ _ _ _ _ _ PassesOwn.never rfl (@pi_rangeD _ _ _ _ _ _ _ _ rfl B.range (@pa_cons _ _ _ _ _ (@pe_op _ _ _ _ _ _ _ _ op_sub (@pe_callB _ _ _ _ _ _ _ _ _ call_lenM rfl B.len bo_len (@pa_cons _ _ _ _ _ (pv 2) pa_nil (by rfl)) (by decide) (by decide) (by rfl) (by rfl)) pe_int) (@pa_cons _ _ _ _ _ (@pe_un _ _ _ _ _ _ un_neg pe_int) (@pa_cons _ _ _ _ _ (@pe_un _ _ _ _ _ _ un_neg pe_int) pa_nil (by rfl)) (by rfl)) (by rfl)) (by rfl) (by rfl)) (@pg_name _ _ (8) _ sc_l_most.nd rfl (by first | exact Or.inl rfl | exact Or.inr rfl) (by first | exact .inl rfl | exact .inr rfl | assumption)) (@pss_one _ _ _ (@ps_if _ _ _ _ _ _ _ _ (@pt_cmpR _ _ _ _ _ _ _ _ (@op_dI _ (@hu_of _ _ hr)) (@pe_op _ _ _ _ _ _ _ _ op_add (pv 1) (pv 8)) (pv 4) (by with_unfolding_all rfl)) (@pss_cons _ _ _ _ _ (@ps_dpM _ _ _ _ _ _ _ _ _ (@hu_of _ _ hr) (pv 4) (@pe_ix _ _ _ _ _ _ _ ix_U (@pe_ix _ _ _ _ _ _ _ ix_M (pv 2) (pv 8) (fun _ _ => rfl)) pe_int (fun _ _ => rfl)) pe_bl rfl) (@pss_one _ _ _ (@ps_dpM _ _ _ _ _ _ _ _ _ (@hu_of _ _ hr) (pv 4) (@pe_ix _ _ _ _ _ _ _ ix_U (@pe_ix _ _ _ _ _ _ _ ix_M (pv 2) (pv 8) (fun _ _ => rfl)) pe_int (fun _ _ => rfl)) pe_bl rfl))) pss_nil)) (by intro _ ; rfl)) (@pss_cons _ _ _ _ _ (@ps_set _ _ (9) _ _ _ _ sc_l_most.nd rfl (by first | exact Or.inl rfl | exact Or.inr rfl) (@pe_callB _ _ _ _ _ _ _ _ _ call_lenM rfl B.len bo_len (@pa_cons _ _ _ _ _ (@pe_comp0 _ _ _ _ _ _ _ _ (["_law_thing", "_law_ins"]) (1) ([1]) _ _ _ rfl (@pi_dict _ _ _ _ (@pe_frz _ _ _ (pv 4))) (fun nd C s H fp => ⟨(@pg_name _ _ (0) _ nd rfl (by first | exact Or.inl rfl | exact Or.inr rfl) (by first | exact .inl rfl | exact .inr rfl | assumption)), (@pn_one _ _ _ (@pt_cmpR _ _ _ _ _ _ _ _ op_ge (pv 0) (pv 1) (@nomark _ _ (by decide) (by decide)))), (pv 0)⟩) (by decide +kernel) (by first | rfl | decide +kernel) (by first | rfl | decide +kernel) rfl (fun _ => rfl)) pa_nil (by rfl)) (by decide) (by decide) (by rfl) (by rfl)) (by rfl) (by first | exact .inl rfl | exact .inr rfl | assumption)) (@pss_one _ _ _ (@ps_ret _ _ _ _ (@pe_op _ _ _ _ _ _ _ _ op_sub (@pe_op _ _ _ _ _ _ _ _ op_add (pv 9) (@pe_callB _ _ _ _ _ _ _ _ _ call_lenM rfl B.len bo_len (@pa_cons _ _ _ _ _ (@pe_comp0 _ _ _ _ _ _ _ _ (["_law_goal_here"]) (1) ([]) _ _ _ rfl (@pi_list _ _ _ _ (pv 3)) (fun nd C s H fp => ⟨(@pg_name _ _ (0) _ nd rfl (by first | exact Or.inl rfl | exact Or.inr rfl) (by first | exact .inl rfl | exact .inr rfl | assumption)), (@pn_one _ _ _ (@pt_cmpR _ _ _ _ _ _ _ _ op_ne (@pe_ix _ _ _ _ _ _ _ (@ix_tupK _ K (by rfl)) (pv 0) pe_int (fun _ _ => rfl)) pe_int (@nomark _ _ (by decide) (by decide)))), (pv 0)⟩) (by decide +kernel) (by first | rfl | decide +kernel) (by first | rfl | decide +kernel) rfl (fun _ => rfl)) pa_nil (by rfl)) (by decide) (by decide) (by rfl) (by rfl))) (@pe_op _ _ _ _ _ _ _ _ op_sub (@pe_callB _ _ _ _ _ _ _ _ _ call_lenF rfl B.len bo_len (@pa_cons _ _ _ _ _ (pv 4) pa_nil (by rfl)) (by decide) (by decide) (by rfl) (by rfl)) (pv 9))))))))))), ?_⟩
  rw [show start ["_law_web_here", "_law_ins", "_law_deeds", "_law_goals", "_law_met", "_law_thing", "_law_shift", "_law_sign", "_law_k", "_law_gone_to"] [.ref x] = [some (.ref x), none, none, none, none, none, none, none, none, none] from rfl]
  (iterate 5 ((try (walk_at "WP")); (try (simp only [hx, Option.some.injEq, HO.tup.injEq, HO.lst.injEq, HO.dK.injEq, exists_eq_left', exists_eq_left])))); (try (walk_at "WP"))
  intro me nme
  have s1 := same_new nme (.dK [])
  have hm1 : upd H me (.dK []) me = some (.dK (ukv [])) := upd_same
  generalize upd H me (.dK []) = H1 at s1 hm1 ⊢
  have gth : ∀ g ∈ gs, g.th < ins + ds.length := ok.gk
  refine mid_of (fun σ H2 => ∃ (ks : List Int) (o5 o6 o7 : Option V), σ = [some (.ref x), some (.int ins), some (.ref dl), some (.ref gl), some (.ref me), o5, o6, o7, none, none] ∧ Same H H2 ∧ H2 me = some (.dK (ukv ks)) ∧ MS (ins + ds.length) (metK ins ds gs ds.length) ks ∧ ks.length ≤ 12) (fun N hN => ?_) ?_
  · try walk_at "WP"
    refine ⟨⟨_, SqL.of (s1 _ _ W.gll)⟩, ?_⟩
    refine forL (xs := os) (fun i σ H2 => ∃ (ks : List Int) (o5 o6 o7 : Option V), σ = [some (.ref x), some (.int ins), some (.ref dl), some (.ref gl), some (.ref me), o5, o6, o7, none, none] ∧ Same H H2 ∧ H2 me = some (.dK (ukv ks)) ∧ ks.Nodup ∧ (∀ k : Int, k ∈ ks ↔ ∃ g ∈ gs.take i, g.sg ≠ 0 ∧ k = g.th) ∧ ks.length ≤ i) ⟨[], _, _, _, rfl, s1, hm1, List.nodup_nil, fun k => by simp, Nat.le_refl _⟩ ?_ ?_ ?_
    · rintro i σ H2 _ ⟨_, _, _, _, _, s2, _⟩
      exact SqL.of (s2 _ _ W.gll)
    · rintro i y σ H2 N2 hy ⟨ks, o5, o6, o7, rfl, s2, hm2, nd, mem, kl⟩ hN2
      have hi : i < gs.length := by rw [← ol]; exact (List.getElem?_eq_some_iff.mp hy).1
      have eg := List.getElem?_eq_getElem hi
      obtain ⟨yp, hy1, hy2⟩ := W.hgs.at_ i _ eg
      generalize gs[i] = g at eg hy2
      rw [hy] at hy1
      cases hy1
      have y2 := s2.seqT hy2
      unfold gTp at y2
      have tk : gs.take (i + 1) = gs.take i ++ [g] := by rw [List.take_add_one, eg]; rfl
      try walk_at "WP"
      refine ⟨_, y2, rfl, ?_⟩
      try walk_at "WP"
      refine ite2 (fun z => ?_) (fun z => ?_)
      · (iterate 5 ((try (walk_at "WP")); (try (simp only [hm2, Option.some.injEq, HO.tup.injEq, HO.lst.injEq, HO.dK.injEq, exists_eq_left', exists_eq_left])))); (try (walk_at "WP"))
        refine ⟨by rw [ukv_len]; exact lt_big (by omega), ?_⟩
        rw [ukv_put]
        refine hN2 _ _ ⟨putI ks g.th, _, _, _, rfl, same_upd nme s2, upd_same, putI_nd nd, fun k => ?_, Nat.le_trans putI_len (by omega)⟩
        rw [putI_mem, mem, tk]
        constructor
        · rintro (⟨g', h1, h2⟩ | rfl)
          · exact ⟨g', List.mem_append_left _ h1, h2⟩
          · exact ⟨g, List.mem_append_right _ (List.mem_singleton.mpr rfl), z, rfl⟩
        · rintro ⟨g', h1, h2, h3⟩
          rcases List.mem_append.mp h1 with c | c
          · exact .inl ⟨g', c, h2, h3⟩
          · rw [List.mem_singleton.mp c] at h3; exact .inr h3
      · refine hN2 _ _ ⟨ks, _, _, _, rfl, s2, hm2, nd, fun k => ?_, by omega⟩
        rw [mem, tk]
        constructor
        · rintro ⟨g', h1, h2⟩
          exact ⟨g', List.mem_append_left _ h1, h2⟩
        · rintro ⟨g', h1, h2, h3⟩
          rcases List.mem_append.mp h1 with c | c
          · exact ⟨g', c, h2, h3⟩
          · rw [List.mem_singleton.mp c] at h2; exact absurd h2 z
    · rintro σ H2 ⟨ks, o5, o6, o7, rfl, s2, hm2, nd, mem, kl⟩
      rw [ol, List.take_length] at mem
      refine hN _ _ ⟨ks, _, _, _, rfl, s2, hm2, ⟨nd, fun k => ?_⟩, by omega⟩
      rw [mem]
      constructor
      · rintro ⟨g, h1, h2, h3⟩
        exact ⟨g.th, h3, gth g h1, (metK_end gth (gth g h1)).mpr ⟨g, h1, h2, rfl⟩⟩
      · rintro ⟨t, rfl, h2, h3⟩
        obtain ⟨g, a1, a2, a3⟩ := (metK_end gth h2).mp h3
        exact ⟨g, a1, a2, by rw [a3]⟩
  rintro σ H2 ⟨ks, o5, o6, o7, rfl, s2, hm2, M2, kl⟩
  have hd2 := s2 _ _ W.dll
  refine mid_of (fun σ H3 => ∃ (ks : List Int) (o5 o6 o7 o8 : Option V), σ = [some (.ref x), some (.int ins), some (.ref dl), some (.ref gl), some (.ref me), o5, o6, o7, o8, none] ∧ Same H H3 ∧ H3 me = some (.dK (ukv ks)) ∧ MS (ins + ds.length) (metK ins ds gs 0) ks) (fun N hN => ?_) ?_
  · (iterate 5 ((try (walk_at "WP")); (try (simp only [hd2, Option.some.injEq, HO.tup.injEq, HO.lst.injEq, HO.dK.injEq, exists_eq_left', exists_eq_left])))); (try (walk_at "WP"))
    refine ⟨⟨by omega, by omega⟩, ?_⟩
    rw [show ((us.length : Nat) : Int) - 1 + 1 = ((us.length : Nat) : Int) by omega, Int.toNat_natCast]
    refine forR3 (fun i σ H3 => ∃ (ks : List Int) (o5 o6 o7 o8 : Option V), σ = [some (.ref x), some (.int ins), some (.ref dl), some (.ref gl), some (.ref me), o5, o6, o7, o8, none] ∧ Same H H3 ∧ H3 me = some (.dK (ukv ks)) ∧ MS (ins + ds.length) (metK ins ds gs (ds.length - i)) ks) ⟨ks, _, _, _, _, rfl, s2, hm2, M2⟩ ?_ ?_
    · rintro i σ H3 N2 hi ⟨ks, o5, o6, o7, o8, rfl, s3, hm3, M3⟩ hN2
      obtain ⟨k, hk⟩ : ∃ k, k = ds.length - (i + 1) := ⟨_, rfl⟩
      have hk1 : ds.length - i = k + 1 := by omega
      rw [hk1] at M3
      rw [← hk] at hN2
      have ek := List.getElem?_eq_getElem (l := ds) (i := k) (by omega)
      generalize ds[k]'(by omega) = d at ek
      obtain ⟨da, db, _⟩ := ok.dk k d ek
      obtain ⟨xd, e1, e2⟩ := W.hds.at_ k d ek
      have e3 := s3 _ _ e2
      unfold wTup at e3
      have hd3 := s3 _ _ W.dll
      have st := metK_step (gs := gs) ek da db
      have lenK : ks.length ≤ 72 := by
        rw [M3.len]
        exact Nat.le_trans (dcnt_le _ _ _) (by omega)
      rw [show (((us.length : Nat) : Int) - 1 + (i : Int) * -1) = (k : Int) by omega]
      (iterate 5 ((try (walk_at "WP")); (try (simp only [hm3, Option.some.injEq, HO.tup.injEq, HO.lst.injEq, HO.dK.injEq, exists_eq_left', exists_eq_left])))); (try (walk_at "WP"))
      have inI : (valV (ukv ks) (Sum.inl ((ins : Int) + (k : Int)))).isSome = true ↔ (metK ins ds gs (k + 1)).getD (ins + k) false = true := by
        rw [ukv_val]
        constructor
        · intro z
          split at z
          · rename_i c
            obtain ⟨t, h1, h2, h3⟩ := (M3.mem _).mp c
            rw [show ins + k = t by omega]
            exact h3
          · cases z
        · intro z
          rw [if_pos ((M3.mem _).mpr ⟨ins + k, by omega, by omega, z⟩)]
          rfl
      refine ite2 (fun z => ?_) (fun z => ?_)
      · have z' := inI.mp z
        (iterate 5 ((try (walk_at "WP")); (try (simp only [hd3, Option.some.injEq, HO.tup.injEq, HO.lst.injEq, HO.dK.injEq, exists_eq_left', exists_eq_left])))); (try (walk_at "WP"))
        refine ⟨_, atI_nat e1, ?_⟩
        (iterate 5 ((try (walk_at "WP")); (try (simp only [e3, hm3, Option.some.injEq, HO.tup.injEq, HO.lst.injEq, HO.dK.injEq, exists_eq_left', exists_eq_left])))); (try (walk_at "WP"))
        refine ⟨by rw [ukv_len]; exact lt_big (by omega), ?_⟩
        rw [ukv_put]
        have s4 : Same H (upd H3 me (.dK (ukv (putI ks d.a)))) := same_upd nme s3
        have hm4 : upd H3 me (.dK (ukv (putI ks d.a))) me = some (.dK (ukv (putI ks d.a))) := upd_same
        have pl := putI_len (ks := ks) (k := (d.a : Int))
        rw [show (if ((d.a : Nat) : Int) ∈ ks then ks else ks ++ [((d.a : Nat) : Int)]) = putI ks d.a from rfl]
        generalize upd H3 me (.dK (ukv (putI ks d.a))) = H4 at s4 hm4 ⊢
        have hd4 := s4 _ _ W.dll
        have e4 := s4 _ _ e2
        unfold wTup at e4
        (iterate 5 ((try (walk_at "WP")); (try (simp only [hd4, Option.some.injEq, HO.tup.injEq, HO.lst.injEq, HO.dK.injEq, exists_eq_left', exists_eq_left])))); (try (walk_at "WP"))
        refine ⟨_, atI_nat e1, ?_⟩
        (iterate 5 ((try (walk_at "WP")); (try (simp only [e4, hm4, Option.some.injEq, HO.tup.injEq, HO.lst.injEq, HO.dK.injEq, exists_eq_left', exists_eq_left])))); (try (walk_at "WP"))
        refine ⟨by rw [ukv_len]; exact lt_big (by omega), ?_⟩
        rw [ukv_put]
        refine hN2 _ _ ⟨putI (putI ks d.a) d.b, _, _, _, _, rfl, same_upd nme s4, upd_same, ⟨putI_nd (putI_nd M3.nd), fun y => ?_⟩⟩
        rw [putI_mem, putI_mem, M3.mem]
        constructor
        · rintro ((⟨t, h1, h2, h3⟩ | rfl) | rfl)
          · exact ⟨t, h1, h2, (st t).mpr (.inl h3)⟩
          · exact ⟨d.a, rfl, by omega, (st _).mpr (.inr ⟨z', .inl rfl⟩)⟩
          · exact ⟨d.b, rfl, by omega, (st _).mpr (.inr ⟨z', .inr rfl⟩)⟩
        · rintro ⟨t, rfl, h2, h3⟩
          rcases (st t).mp h3 with c | ⟨_, c | c⟩
          · exact .inl (.inl ⟨t, rfl, h2, c⟩)
          · rw [c]; exact .inl (.inr rfl)
          · rw [c]; exact .inr rfl
      · have z' : ¬ (metK ins ds gs (k + 1)).getD (ins + k) false = true := fun c => z (inI.mpr c)
        refine hN2 _ _ ⟨ks, _, _, _, _, rfl, s3, hm3, ⟨M3.nd, fun y => ?_⟩⟩
        rw [M3.mem]
        constructor
        · rintro ⟨t, h1, h2, h3⟩
          exact ⟨t, h1, h2, (st t).mpr (.inl h3)⟩
        · rintro ⟨t, h1, h2, h3⟩
          rcases (st t).mp h3 with c | ⟨c, _⟩
          · exact ⟨t, h1, h2, c⟩
          · exact absurd c z'
    · rintro σ H3 ⟨ks, o5, o6, o7, o8, rfl, s3, hm3, M3⟩
      rw [ul, Nat.sub_self] at M3
      exact hN _ _ ⟨ks, _, _, _, _, rfl, s3, hm3, M3⟩
  rintro σ H3 ⟨ks, o5, o6, o7, o8, rfl, s3, hm3, M3⟩
  rw [metK_zero] at M3
  (iterate 5 ((try (walk_at "WP")); (try (simp only [w_compD, w_frz, Option.some.injEq, HO.tup.injEq, HO.lst.injEq, HO.dK.injEq, exists_eq_left', exists_eq_left])))); (try (walk_at "WP"))
  refine ⟨_, hm3, fun o => ⟨o, _, rfl, ?_⟩⟩
  have s4 : Same H (upd H3 me (.frz o (.dK (ukv ks)))) := same_upd nme s3
  have hm4 : upd H3 me (.frz o (.dK (ukv ks))) me = some (.frz o (.dK (ukv ks))) := upd_same
  generalize upd H3 me (.frz o (.dK (ukv ks))) = H4 at s4 hm4 ⊢
  have hI := fun H' => it_D hm4 (H' := H')
  rw [ukv_keys] at hI
  have lenK : ks.length ≤ 72 := by
    rw [M3.len]
    exact Nat.le_trans (dcnt_le _ _ _) (by omega)
  refine comp_pure (geV ins) (by rw [List.length_map]; exact le_big (by omega)) hI (fun y H' R hy hS' hR => ?_) (fun acc hacc => ?_)
  · obtain ⟨n, hn, rfl⟩ := List.mem_map.mp hy
    rw [show capV [1] [some (V.ref x), some (V.int (ins : Int)), some (V.ref dl), some (V.ref gl), some (V.ref me), o5, o6, o7, o8, none] = [some (V.int (ins : Int))] from rfl]
    try walk_at "WP"
    unfold geV at hR
    dsimp only at hR
    refine ite2 (fun z => ?_) (fun z => ?_)
    · rw [if_pos z] at hR
      exact hR
    · rw [if_neg z] at hR
      exact hR
  rw [geV_map]
  have s5 := same_new hacc (.lst ((ks.filter fun k => decide ((ins : Int) ≤ k)).map V.int))
  have ha5 : upd H4 acc (.lst ((ks.filter fun k => decide ((ins : Int) ≤ k)).map V.int)) acc = some (.lst ((ks.filter fun k => decide ((ins : Int) ≤ k)).map V.int)) := upd_same
  have hm5 := s5 _ _ hm4
  have e5 := s4.trans s5
  generalize upd H4 acc (.lst ((ks.filter fun k => decide ((ins : Int) ≤ k)).map V.int)) = H5 at s5 ha5 hm5 e5 ⊢
  refine ⟨_, rfl, _, ha5, ⟨_, SqL.of (e5 _ _ W.gll)⟩, ?_⟩
  refine comp_filtN (xs := gs) (e5 _ _ W.gll) ol (by omega) (fun g => decide (g.sg ≠ 0)) (fun k v g H' R hv hg s' hR => ?_) (fun acc2 ws H6 n6 s6 h6 wl => ?_)
  · obtain ⟨yp, e1, e2⟩ := W.hgs.at_ k g hg
    rw [hv] at e1
    cases e1
    have y2 := (e5.trans s').seqT e2
    unfold gTp at y2
    rw [show capV [] [some (V.ref x), some (V.int (ins : Int)), some (V.ref dl), some (V.ref gl), some (V.ref me), o5, o6, o7, o8, some (V.int (((ks.filter fun k => decide ((ins : Int) ≤ k)).map V.int).length : Nat))] = [] from rfl]
    try walk_at "WP"
    refine ⟨_, y2, _, rfl, ?_⟩
    try walk_at "WP"
    simpa using hR
  · refine ⟨_, rfl, _, h6, _, _, s6 _ _ hm5, ?_⟩
    have L1 := M3.len
    have L2 := M3.gone
    have L3 := oarr_nz (ins + ds.length) gs 0
    have L4 := dcnt_add 0 ins ds.length (metB ins ds gs)
    rw [Nat.zero_add] at L4
    have e7 : ((((ks.filter fun k => decide ((ins : Int) ≤ k)).map V.int).length : Nat) : Int) + ((ws.length : Nat) : Int) - ((((ukv ks).length : Nat) : Int) - ((((ks.filter fun k => decide ((ins : Int) ≤ k)).map V.int).length : Nat) : Int)) = mostV ins ds gs := by
      rw [ukv_len, List.length_map, L1, L2, wl, ← L3]
      unfold mostV
      omega
    rw [e7]
    exact q _ (e5.trans s6)
end

section
variable {P : Program} {w : World} {K : PySem.W.Frag} {mg : Str → Option Value} {base : Heap}
theorem ok_rightU (T : Txt K mg) : Cal P w K mg base 5 "_law_right" ["_law_web_here", "_law_found"] (spRightU K) := by
  have B := T.bl
  have C_l_outs := ok_outsX (P := P) (w := w) (base := base) T
  have C_l_most := (ok_mostU (P := P) (w := w) (base := base) T).mono (k := 4) (by decide)
  refine mkCal T.t_l_right sc_l_right (fun vs H Q E h => ?_) (fun f cdv A outer s H vs Q E hr h => ?_)
  · obtain ⟨_, _, _, _, _, _, _, _, _, _, _, _, _, _, _, rfl, _⟩ := h
    rfl
  obtain ⟨x, f0, dl, gl, d3, g3, ins, us, ds, os, gs, μ, Bd, xs, ys, rfl, W, TW, hm, h60, W3, q⟩ := h
  have hx := W.tup
  have hg := W.gll
  have ol := W.hgs.len
  have i12 := TW.ok.i2
  obtain ⟨μ', TW'⟩ := TW.turn hm h60
  refine ⟨_, ((@pss_cons _ _ _ _ _ (@ps_set _ _ (2) _ _ _ _ sc_l_right.nd rfl (by first | exact Or.inl rfl | exact Or.inr rfl) (@pe_cal _ _ _ _ _ _ _ _ _ _ C_l_outs hr rfl (@pa_cons _ _ _ _ _ (pv 0) (@pa_cons _ _ _ _ _ (@pe_ix _ _ _ _ _ _ _ ix_U (pv 0) pe_int (fun _ _ => rfl)) pa_nil (by rfl)) (by rfl)) (by decide) (by rfl) (by rfl)) (by rfl) (by first | exact .inl rfl | exact .inr rfl | assumption)) (@pss_cons _ _ _ _ _ (@ps_set _ _ (3) _ _ _ _ sc_l_right.nd rfl (by first | exact Or.inl rfl | exact Or.inr rfl) (@pe_cal _ _ _ _ _ _ _ _ _ _ C_l_outs hr rfl (@pa_cons _ _ _ _ _ (pv 1) (@pa_cons _ _ _ _ _ (@pe_callB _ _ _ _ _ _ _ _ _ call_lenM rfl B.len bo_len (@pa_cons _ _ _ _ _ (@pe_ix _ _ _ _ _ _ _ ix_U (pv 0) pe_int (fun _ _ => rfl)) pa_nil (by rfl)) (by decide) (by decide) (by rfl) (by rfl)) pa_nil (by rfl)) (by rfl)) (by decide) (by rfl) (by rfl)) (by rfl) (by first | exact .inl rfl | exact .inr rfl | assumption)) (@pss_cons _ _ _ _ _ (@ps_if _ _ _ _ _ _ _ _ (@PW.pt _ _ _ (@pw_or _ _ _ _ _ _ _ (@pt_cmp _ _ _ _ _ _ (@pc_isN _ _ _ _ _ (pv 3)) (by first | exact nobehind _ ( by decide ) ( by decide ) | rfl)) (@pw_or _ _ _ _ _ _ _ (@pt_cmpR _ _ _ _ _ _ _ _ op_ne (@pe_callB _ _ _ _ _ _ _ _ _ call_lenM rfl B.len bo_len (@pa_cons _ _ _ _ _ (pv 3) pa_nil (by rfl)) (by decide) (by decide) (by rfl) (by rfl)) (@pe_ix _ _ _ _ _ _ _ ix_U (pv 0) pe_int (fun _ _ => rfl)) (@nomark _ _ (by decide) (by decide))) (@pw_or1 _ _ _ _ (@pt_cmpR _ _ _ _ _ _ _ _ op_gt (@pe_callB _ _ _ _ _ _ _ _ _ call_lenM rfl B.len bo_len (@pa_cons _ _ _ _ _ (@pe_ix _ _ _ _ _ _ _ ix_U (pv 1) pe_int (fun _ _ => rfl)) pa_nil (by rfl)) (by decide) (by decide) (by rfl) (by rfl)) (@pe_cal _ _ _ _ _ _ _ _ _ _ C_l_most hr rfl (@pa_cons _ _ _ _ _ (pv 0) pa_nil (by rfl)) (by decide) (by rfl) (by rfl)) (@nomark _ _ (by decide) (by decide))))))) (@pss_one _ _ _ (@ps_ret _ _ _ _ pe_bl)) pss_nil) (@pss_one _ _ _ (@ps_ret _ _ _ _ (@pe_cmpR _ _ _ _ _ _ _ _ (@op_eqD _ _ hr) (pv 3) (@pe_compC _ _ _ _ _ _ _ _ (["_law_i", "_law_due"]) (1) ([2]) _ _ _ rfl (@pi_range1 _ _ _ _ _ _ rfl B.range (@pa_cons _ _ _ _ _ (@pe_ix _ _ _ _ _ _ _ ix_U (pv 0) pe_int (fun _ _ => rfl)) pa_nil (by rfl)) (by rfl)) (fun nd C s H fp => ⟨(@pg_name _ _ (0) _ nd rfl (by first | exact Or.inl rfl | exact Or.inr rfl) (by first | exact .inl rfl | exact .inr rfl | assumption)), pn_nil, (@pe_comp0 _ _ _ _ _ _ _ _ (["_law_line", "_law_i"]) (1) ([0]) _ _ _ rfl (@pi_listK K _ _ _ _ (pv 1) (by rfl)) (fun nd C s H fp => ⟨(@pg_name _ _ (0) _ nd rfl (by first | exact Or.inl rfl | exact Or.inr rfl) (by first | exact .inl rfl | exact .inr rfl | assumption)), pn_nil, (@pe_ix _ _ _ _ _ _ _ ix_M (pv 0) (pv 1) (fun _ _ => rfl))⟩) (by decide +kernel) (by first | rfl | decide +kernel) (by first | rfl | decide +kernel) rfl (fun _ => rfl))⟩) (by decide +kernel) (by first | rfl | decide +kernel) (by first | rfl | decide +kernel) rfl (fun _ => rfl)) (@nomark _ _ (by decide) (by decide))))))))), ?_⟩
  rw [show start ["_law_web_here", "_law_found", "_law_due", "_law_told"] [.ref x, .ref f0] = [some (.ref x), some (.ref f0), none, none] from rfl]
  (iterate 5 ((try (walk_at "WP")); (try (simp only [hx, Option.some.injEq, HO.tup.injEq, HO.lst.injEq, HO.dK.injEq, exists_eq_left', exists_eq_left])))); (try (walk_at "WP"))
  refine ⟨x, dl, gl, ins, us, ds, os, gs, rfl, W, TW.fw, TW.low, fun r1 H1 n1 e1 L1 => ?_⟩
  have hx1 := e1 _ _ hx
  have hg1 := e1 _ _ hg
  (iterate 5 ((try (walk_at "WP")); (try (simp only [hx1, hg1, Option.some.injEq, HO.tup.injEq, HO.lst.injEq, HO.dK.injEq, exists_eq_left', exists_eq_left])))); (try (walk_at "WP"))
  rw [ol]
  refine ⟨f0, d3, g3, gs.length, xs, _, ys, _, rfl, W3.same e1, TW'.fw, TW'.low, fun r2 H2 n2 e2' L2 => ?_⟩
  rw [TW.outs hm h60] at L2
  have e2 := e1.trans e2'
  have L1 := L1.same e2'
  obtain ⟨v2, k2, m2, _⟩ := id L2
  rw [List.length_map, List.length_range] at m2
  have hx2 := e2 _ _ hx
  (iterate 5 ((try (walk_at "WP")); (try (simp only [k2, hx2, Option.some.injEq, HO.tup.injEq, HO.lst.injEq, HO.dK.injEq, exists_eq_left', exists_eq_left])))); (try (walk_at "WP"))
  rw [if_neg (by omega)]
  have hf2 := e2 _ _ W3.tup
  have hd2 := e2 _ _ W3.dll
  (iterate 5 ((try (walk_at "WP")); (try (simp only [hf2, hd2, Option.some.injEq, HO.tup.injEq, HO.lst.injEq, HO.dK.injEq, exists_eq_left', exists_eq_left])))); (try (walk_at "WP"))
  refine ⟨x, dl, gl, ins, us, ds, os, gs, rfl, W.same e2, TW.ok, fun H3 e3' => ?_⟩
  have e3 := e2.trans e3'
  have many := TW.many.1
  have xl := W3.hds.len
  try walk_at "WP"
  rw [if_neg (by omega)]
  have hx3 := e3 _ _ hx
  (iterate 5 ((try (walk_at "WP")); (try (simp only [hx3, Option.some.injEq, HO.tup.injEq, HO.lst.injEq, HO.dK.injEq, exists_eq_left', exists_eq_left])))); (try (walk_at "WP"))
  refine ⟨by omega, by omega, ?_⟩
  rw [Int.toNat_natCast]
  have L1 := L1.same e3'
  obtain ⟨v1, k1, m1, a1⟩ := id L1
  refine comp_rLL (by omega) (colM (outsR ins ds gs)) (fun i H' R hi s' hR => ?_) (fun acc H4 n4 e4' L4 => ?_)
  · rw [show capV [2] [some (V.ref x), some (V.ref f0), some (V.ref r1), some (V.ref r2)] = [some (V.ref r1)] from rfl]
    have k1' := s' _ _ k1
    try walk_at "WP"
    refine ⟨⟨_, SqL.of k1'⟩, ?_⟩
    refine comp_ofI (xs := outsR ins ds gs) k1' m1 (by unfold outsR; rw [List.length_map]; have := TW.ok.gl; omega) (fun r => r.getD i 0) (fun k v r H'' R' hv hr' s'' hR' => ?_) (fun acc H4 n4 e4 h4 => hR acc H4 n4 e4 h4)
    rw [show capV [0] [some (V.int (0 + (i : Int))), some (V.ref r1)] = [some (V.int (0 + (i : Int)))] from rfl]
    obtain ⟨pr, b1, _, b3⟩ := a1 k r hr'
    rw [hv] at b1
    cases b1
    have b4 := s'' _ _ (s' _ _ b3)
    have rl : r.length = ins := by
      obtain ⟨g, hg', rfl⟩ := List.mem_map.mp (List.mem_of_getElem? hr')
      unfold outR
      have eg := List.getElem?_eq_getElem (l := rowsW ins ds) (i := g.th) (by rw [rowsW_len]; exact TW.ok.gk g hg')
      rw [List.length_map, getD_of eg]
      exact TW.fw.wd _ (List.mem_of_getElem? eg)
    have ei := List.getElem?_eq_getElem (l := r) (i := i) (by omega)
    rw [getD_of ei] at hR'
    rw [show (0 : Int) + (i : Int) = i by omega]
    (iterate 5 ((try (walk_at "WP")); (try (simp only [b4, Option.some.injEq, HO.tup.injEq, HO.lst.injEq, HO.dK.injEq, exists_eq_left', exists_eq_left])))); (try (walk_at "WP"))
    exact ⟨_, atI_nat (by rw [List.getElem?_map, ei]; rfl), hR' _ (Same.refl _)⟩
  · exact eq_LL ((L2.same e3').same e4') L4 (q _ (e3.trans e4'))
end

section
variable {P : Program} {w : World} {K : PySem.W.Frag} {mg : Str → Option Value} {base : Heap}
theorem ok_law (T : Txt K mg) {f : Addr} {fd : FuncData} (F : Fun K "law" "law" s_law f fd) : FnOk P w K mg base CX0 20 f fd ["_law_script"] (spLaw K) := by
  have B := T.bl
  have C_l_pen := (ok_lpen (P := P) (w := w) (base := base) T).mono (k := 19) (by decide)
  have C_l_web := (ok_webU (P := P) (w := w) (base := base) T).mono (k := 19) (by decide)
  have C_turned := (ok_turnE (P := P) (w := w) (base := base) T).mono (k := 19) (by decide)
  have C_l_right := (ok_rightU (P := P) (w := w) (base := base) T).mono (k := 19) (by decide)
  refine F.ok sc_law (fun vs H Q E h => ?_) (fun cdv A outer s H vs Q E hr h => ?_)
  · obtain ⟨a, ns, rfl, _⟩ := h
    rfl
  obtain ⟨a, ns, rfl, hS, h63, q⟩ := h
  refine ⟨_, ((@pss_cons _ _ _ _ _ (@ps_set _ _ (1) _ _ _ _ sc_law.nd rfl (by first | exact Or.inl rfl | exact Or.inr rfl) (@pe_cal _ _ _ _ _ _ _ _ _ _ C_l_pen hr rfl (@pa_cons _ _ _ _ _ (pv 0) pa_nil (by rfl)) (by decide) (by rfl) (by rfl)) (by rfl) (by first | exact .inl rfl | exact .inr rfl | assumption)) (@pss_cons _ _ _ _ _ (@ps_for _ _ _ _ _ _ _ _ PassesOwn.never rfl (@pi_range1 _ _ _ _ _ _ rfl B.range (@pa_cons _ _ _ _ _ pe_int pa_nil (by rfl)) (by rfl)) (@pg_name _ _ (2) _ sc_law.nd rfl (by first | exact Or.inl rfl | exact Or.inr rfl) (by first | exact .inl rfl | exact .inr rfl | assumption)) (@pss_cons _ _ _ _ _ (@ps_set _ _ (3) _ _ _ _ sc_law.nd rfl (by first | exact Or.inl rfl | exact Or.inr rfl) (@pe_cal _ _ _ _ _ _ _ _ _ _ C_l_web hr rfl (@pa_cons _ _ _ _ _ (pv 1) pa_nil (by rfl)) (by decide) (by rfl) (by rfl)) (by rfl) (by first | exact .inl rfl | exact .inr rfl | assumption)) (@pss_cons _ _ _ _ _ (@ps_set _ _ (4) _ _ _ _ sc_law.nd rfl (by first | exact Or.inl rfl | exact Or.inr rfl) (@pe_tup _ _ _ _ _ (@pa_cons _ _ _ _ _ (@pe_ix _ _ _ _ _ _ _ ix_U (pv 3) pe_int (fun _ _ => rfl)) (@pa_cons _ _ _ _ _ (@pe_callTy _ _ _ _ _ _ _ _ _ call_list_of rfl B.list bo_list (@pa_cons _ _ _ _ _ (@pe_ix _ _ _ _ _ _ _ ix_U (pv 3) pe_int (fun _ _ => rfl)) pa_nil (by rfl)) (by decide) (by decide) (by rfl) (by rfl)) (@pa_cons _ _ _ _ _ (@pe_callTy _ _ _ _ _ _ _ _ _ call_list_of rfl B.list bo_list (@pa_cons _ _ _ _ _ (@pe_ix _ _ _ _ _ _ _ ix_U (pv 3) pe_int (fun _ _ => rfl)) pa_nil (by rfl)) (by decide) (by decide) (by rfl) (by rfl)) pa_nil (by rfl)) (by rfl)) (by rfl))) (by rfl) (by first | exact .inl rfl | exact .inr rfl | assumption)) (@pss_cons _ _ _ _ _ (@ps_set _ _ (5) _ _ _ _ sc_law.nd rfl (by first | exact Or.inl rfl | exact Or.inr rfl) (@pe_cal _ _ _ _ _ _ _ _ _ _ C_turned hr rfl (@pa_cons _ _ _ _ _ (pv 4) pa_nil (by rfl)) (by decide) (by rfl) (by rfl)) (by rfl) (by first | exact .inl rfl | exact .inr rfl | assumption)) (@pss_cons _ _ _ _ _ (@ps_if _ _ _ _ _ _ _ _ (@PW.pt _ _ _ (@pw_or _ _ _ _ _ _ _ (@pt_cmpR _ _ _ _ _ _ _ _ (@op_neD _ _ hr) (pv 4) (pv 3) (@nomark _ _ (by decide) (by decide))) (@pw_or1 _ _ _ _ (@pt_not _ _ _ _ (@pt_val _ _ _ (@pe_cal _ _ _ _ _ _ _ _ _ _ C_l_right hr rfl (@pa_cons _ _ _ _ _ (pv 3) (@pa_cons _ _ _ _ _ (pv 5) pa_nil (by rfl)) (by rfl)) (by decide) (by rfl) (by rfl)) (by intro _ ; rfl)))))) (@pss_one _ _ _ (@ps_ret _ _ _ _ pe_bl)) pss_nil) (@pss_cons _ _ _ _ _ (@ps_set _ _ (6) _ _ _ _ sc_law.nd rfl (by first | exact Or.inl rfl | exact Or.inr rfl) (@pe_tup _ _ _ _ _ (@pa_cons _ _ _ _ _ (@pe_ix _ _ _ _ _ _ _ ix_U (pv 5) pe_int (fun _ _ => rfl)) (@pa_cons _ _ _ _ _ (@pe_callTy _ _ _ _ _ _ _ _ _ call_list_of rfl B.list bo_list (@pa_cons _ _ _ _ _ (@pe_ix _ _ _ _ _ _ _ ix_U (pv 5) pe_int (fun _ _ => rfl)) pa_nil (by rfl)) (by decide) (by decide) (by rfl) (by rfl)) (@pa_cons _ _ _ _ _ (@pe_callTy _ _ _ _ _ _ _ _ _ call_list_of rfl B.list bo_list (@pa_cons _ _ _ _ _ (@pe_ix _ _ _ _ _ _ _ ix_U (pv 5) pe_int (fun _ _ => rfl)) pa_nil (by rfl)) (by decide) (by decide) (by rfl) (by rfl)) pa_nil (by rfl)) (by rfl)) (by rfl))) (by rfl) (by first | exact .inl rfl | exact .inr rfl | assumption)) (@pss_cons _ _ _ _ _ (@ps_expr _ _ _ _ (@pe_bm0 _ _ _ _ _ _ _ _ _ PySem.F.plainAttrs_list PySem.F.slot_list_clear PySem.F.type_list_clear mt_clear (@pe_ix _ _ _ _ _ _ _ ix_U (pv 4) pe_int (fun _ _ => rfl)) (by rfl) (by rfl)) (by rfl)) (@pss_cons _ _ _ _ _ (@ps_expr _ _ _ _ (@pe_bm _ _ _ _ _ _ _ _ _ _ _ _ PySem.F.plainAttrs_list PySem.F.slot_list_append PySem.F.type_list_append mt_append (@pe_ix _ _ _ _ _ _ _ ix_U (pv 4) pe_int (fun _ _ => rfl)) (@pa_cons _ _ _ _ _ (@pe_tup _ _ _ _ _ (@pa_cons _ _ _ _ _ pe_int (@pa_cons _ _ _ _ _ pe_int (@pa_cons _ _ _ _ _ pe_int pa_nil (by rfl)) (by rfl)) (by rfl))) pa_nil (by rfl)) (by rfl) (by rfl) (by rfl) (by rfl) (by rfl)) (by rfl)) (@pss_cons _ _ _ _ _ (@ps_if _ _ _ _ _ _ _ _ (@PW.pt _ _ _ (@pw_or _ _ _ _ _ _ _ (@pt_cmpR _ _ _ _ _ _ _ _ (@op_neD _ _ hr) (pv 5) (pv 6) (@nomark _ _ (by decide) (by decide))) (@pw_or1 _ _ _ _ (@pt_not _ _ _ _ (@pt_val _ _ _ (@pe_cal _ _ _ _ _ _ _ _ _ _ C_l_right hr rfl (@pa_cons _ _ _ _ _ (pv 6) (@pa_cons _ _ _ _ _ (@pe_cal _ _ _ _ _ _ _ _ _ _ C_turned hr rfl (@pa_cons _ _ _ _ _ (pv 5) pa_nil (by rfl)) (by decide) (by rfl) (by rfl)) pa_nil (by rfl)) (by rfl)) (by decide) (by rfl) (by rfl)) (by intro _ ; rfl)))))) (@pss_one _ _ _ (@ps_ret _ _ _ _ pe_bl)) pss_nil) (@pss_cons _ _ _ _ _ (@ps_expr _ _ _ _ (@pe_bm0 _ _ _ _ _ _ _ _ _ PySem.F.plainAttrs_list PySem.F.slot_list_clear PySem.F.type_list_clear mt_clear (@pe_ix _ _ _ _ _ _ _ ix_U (pv 5) pe_int (fun _ _ => rfl)) (by rfl) (by rfl)) (by rfl)) (@pss_cons _ _ _ _ _ (@ps_expr _ _ _ _ (@pe_bm0 _ _ _ _ _ _ _ _ _ PySem.F.plainAttrs_list PySem.F.slot_list_clear PySem.F.type_list_clear mt_clear (@pe_ix _ _ _ _ _ _ _ ix_U (pv 5) pe_int (fun _ _ => rfl)) (by rfl) (by rfl)) (by rfl)) (@pss_one _ _ _ (@ps_if _ _ _ _ _ _ _ _ (@pt_not _ _ _ _ (@pt_val _ _ _ (@pe_cal _ _ _ _ _ _ _ _ _ _ C_l_right hr rfl (@pa_cons _ _ _ _ _ (pv 3) (@pa_cons _ _ _ _ _ (@pe_cal _ _ _ _ _ _ _ _ _ _ C_turned hr rfl (@pa_cons _ _ _ _ _ (pv 3) pa_nil (by rfl)) (by decide) (by rfl) (by rfl)) pa_nil (by rfl)) (by rfl)) (by decide) (by rfl) (by rfl)) (by intro _ ; rfl))) (@pss_one _ _ _ (@ps_ret _ _ _ _ pe_bl)) pss_nil)))))))))))) (by intro _ ; rfl)) (@pss_one _ _ _ (@ps_ret _ _ _ _ pe_bl))))), ?_⟩
  rw [show start ["_law_script", "_law_pen_here", "_law_turn", "_law_web_here", "_law_handed", "_law_found", "_law_kept"] [.ref a] = [some (.ref a), none, none, none, none, none, none] from rfl]
  try walk_at "WP"
  refine ⟨a, rfl, fun p H1 np s1 P1 => ?_⟩
  have S1 := hS.same s1
  try walk_at "WP"
  refine forR (fun i σ H2 => ∃ (o2 o3 o4 o5 o6 : Option V), σ = [some (.ref a), some (.ref p), o2, o3, o4, o5, o6] ∧ LPen H2 p a (1000000 * i) ∧ Scr K H2 a ns) ⟨_, _, _, _, _, rfl, P1.mono (by omega), S1⟩ ?_ ?_
  · rintro i σ H2 N hi ⟨o2, o3, o4, o5, o6, rfl, P2, S2⟩ hN
    refine seq_inG fun R_ hR_ => ?_
    try walk_at "WP"
    refine ⟨p, a, ns, _, rfl, P2, S2, h63, by omega, fun x dl gl ins us ds os gs μ Bd H nx nd ng dg W TW d30 hm hP hS C => ?_⟩
    have hx := W.tup
    have g12 := TW.ok.gl
    have i12 := TW.ok.i2
    obtain ⟨μ', TW'⟩ := TW.turn hm (by omega)
    have many := TW.many.2
    (try (walk_at "WP")); (try (refine seq_out hR_ ?_)); (try (refine seq_in fun R_ hR_ => ?_)); (iterate 5 ((try (walk_at "WP")); (try (simp only [hx, Option.some.injEq, HO.tup.injEq, HO.lst.injEq, HO.dK.injEq, exists_eq_left', exists_eq_left])))); (try (walk_at "WP"))
    refine ⟨_, .inl (SqL.of W.dll), fun l1 n1 => ?_⟩
    have e1 := same_new n1 (.lst us)
    have k1 : upd H l1 (.lst us) l1 = some (.lst us) := upd_same
    generalize upd H l1 (.lst us) = H1 at e1 k1 ⊢
    have hx1 := e1 _ _ hx
    (iterate 5 ((try (walk_at "WP")); (try (simp only [hx1, Option.some.injEq, HO.tup.injEq, HO.lst.injEq, HO.dK.injEq, exists_eq_left', exists_eq_left])))); (try (walk_at "WP"))
    refine ⟨_, .inl (SqL.of (e1 _ _ W.gll)), fun l2 n2 => ?_⟩
    have e2' := same_new n2 (.lst os)
    have e2 := e1.trans e2'
    have l12 : l1 ≠ l2 := ne_of_none k1 n2
    have k1 := e2' _ _ k1
    have k2 : upd H1 l2 (.lst os) l2 = some (.lst os) := upd_same
    have n2 := e1.free n2
    generalize upd H1 l2 (.lst os) = H2 at e2 e2' k1 k2 ⊢
    try walk_at "WP"
    intro x1 nx1
    have e3' := same_new nx1 (.tup [V.int (ins : Int), V.ref l1, V.ref l2])
    have X1 : Wb (upd H2 x1 (.tup [V.int (ins : Int), V.ref l1, V.ref l2])) x1 l1 l2 ins us ds os gs := ⟨upd_same, e3' _ _ k1, (W.hds.same e2).same e3', e3' _ _ k2, (W.hgs.same e2).same e3'⟩
    have e3 := e2.trans e3'
    generalize upd H2 x1 (.tup [V.int (ins : Int), V.ref l1, V.ref l2]) = H3 at e3 X1 ⊢
    (try (walk_at "WP")); (try (refine seq_out hR_ ?_)); (try (refine seq_in fun R_ hR_ => ?_)); (try (walk_at "WP"))
    refine ⟨x1, l1, l2, ins, us, ds, os, gs, μ, Bd, rfl, X1.wk, TW, hm, fun f0 d3 g3 xs ys H4 nf nd3 ng3 dg3 e4' F4 => ?_⟩
    have l1d : l1 ≠ d3 := ne_of_none X1.dll nd3
    have l1g : l1 ≠ g3 := ne_of_none X1.dll ng3
    have l2d : l2 ≠ d3 := ne_of_none X1.gll nd3
    have l2g : l2 ≠ g3 := ne_of_none X1.gll ng3
    have nd3 := e3.free nd3
    have ng3 := e3.free ng3
    have X1 := X1.same e4'
    have e4 := e3.trans e4'
    (try (walk_at "WP")); (try (refine seq_out hR_ ?_)); (try (refine seq_in fun R_ hR_ => ?_)); (try (walk_at "WP"))
    refine ne_web X1 (W.same e4) ?_
    try walk_at "WP"
    refine ⟨x, f0, dl, gl, d3, g3, ins, us, ds, os, gs, μ, Bd, xs, ys, rfl, (W.same e4).wk, TW, hm, by omega, F4, fun H5 e5' => ?_⟩
    have X1 := X1.same e5'
    have F4 := F4.same e5'
    have e5 := e4.trans e5'
    have hf := F4.tup
    (try (walk_at "WP")); (try (refine seq_out hR_ ?_)); (try (refine seq_in fun R_ hR_ => ?_)); (iterate 5 ((try (walk_at "WP")); (try (simp only [hf, Option.some.injEq, HO.tup.injEq, HO.lst.injEq, HO.dK.injEq, exists_eq_left', exists_eq_left])))); (try (walk_at "WP"))
    refine ⟨_, .inl (SqL.of F4.dll), fun m1 nm1 => ?_⟩
    have e6' := same_new nm1 (.lst xs)
    have j1 : upd H5 m1 (.lst xs) m1 = some (.lst xs) := upd_same
    have m1l1 : m1 ≠ l1 := (ne_of_none X1.dll nm1).symm
    have m1l2 : m1 ≠ l2 := (ne_of_none X1.gll nm1).symm
    have m1d : m1 ≠ d3 := (ne_of_none F4.dll nm1).symm
    have m1g : m1 ≠ g3 := (ne_of_none F4.gll nm1).symm
    have X1 := X1.same e6'
    have F4 := F4.same e6'
    have e6 := e5.trans e6'
    generalize upd H5 m1 (.lst xs) = H6 at e6 j1 X1 F4 ⊢
    have hf := F4.tup
    (iterate 5 ((try (walk_at "WP")); (try (simp only [hf, Option.some.injEq, HO.tup.injEq, HO.lst.injEq, HO.dK.injEq, exists_eq_left', exists_eq_left])))); (try (walk_at "WP"))
    refine ⟨_, .inl (SqL.of F4.gll), fun m2 nm2 => ?_⟩
    have e7' := same_new nm2 (.lst ys)
    have j2 : upd H6 m2 (.lst ys) m2 = some (.lst ys) := upd_same
    have m2l1 : m2 ≠ l1 := (ne_of_none X1.dll nm2).symm
    have m2l2 : m2 ≠ l2 := (ne_of_none X1.gll nm2).symm
    have m2d : m2 ≠ d3 := (ne_of_none F4.dll nm2).symm
    have m2g : m2 ≠ g3 := (ne_of_none F4.gll nm2).symm
    have X1 := X1.same e7'
    have F4 := F4.same e7'
    have j1 := e7' _ _ j1
    have e7 := e6.trans e7'
    generalize upd H6 m2 (.lst ys) = H7 at e7 j1 j2 X1 F4 ⊢
    try walk_at "WP"
    intro x3 nx3
    have e8' := same_new nx3 (.tup [V.int ((gs.length : Nat) : Int), V.ref m1, V.ref m2])
    have X1 := X1.same e8'
    have F4 := F4.same e8'
    have F9 : WbK K (upd H7 x3 (.tup [V.int ((gs.length : Nat) : Int), V.ref m1, V.ref m2])) x3 m1 m2 gs.length xs (trnD ins ds gs) ys (trnO ins ds gs) := ⟨upd_same, e8' _ _ j1, F4.hds, e8' _ _ j2, F4.hgs⟩
    have e8 := e7.trans e8'
    generalize upd H7 x3 (.tup [V.int ((gs.length : Nat) : Int), V.ref m1, V.ref m2]) = H8 at e8 F9 X1 F4 ⊢
    have hx1 := X1.tup
    (try (walk_at "WP")); (try (refine seq_out hR_ ?_)); (try (refine seq_in fun R_ hR_ => ?_)); (iterate 5 ((try (walk_at "WP")); (try (simp only [hx1, Option.some.injEq, HO.tup.injEq, HO.lst.injEq, HO.dK.injEq, exists_eq_left', exists_eq_left])))); (try (walk_at "WP"))
    refine ⟨ty_list X1.dll, _, X1.dll, ?_⟩
    have F4 := F4.chg X1.dll l1d.symm l1g.symm (Chg.upd (.lst []))
    have F9 := F9.chg X1.dll m1l1 m2l1 (Chg.upd (.lst []))
    have X1t : upd H8 l1 (.lst []) x1 = some (.tup [V.int (ins : Int), V.ref l1, V.ref l2]) := by rw [upd_ne (ne_of X1.tup X1.dll (by intro z; cases z))]; exact X1.tup
    have X1g : upd H8 l1 (.lst []) l2 = some (.lst os) := by rw [upd_ne l12.symm]; exact X1.gll
    have e9 := same_chg n1 e8 (Chg.upd (.lst []))
    generalize upd H8 l1 (.lst []) = H9 at e9 X1t X1g F4 F9 ⊢
    (try (walk_at "WP")); (try (refine seq_out hR_ ?_)); (try (refine seq_in fun R_ hR_ => ?_)); (iterate 5 ((try (walk_at "WP")); (try (simp only [X1t, Option.some.injEq, HO.tup.injEq, HO.lst.injEq, HO.dK.injEq, exists_eq_left', exists_eq_left])))); (try (walk_at "WP"))
    refine ⟨ty_list X1g, fun zz nz => ?_⟩
    have e10' := same_new nz (.tup [V.int 0, V.int 0, V.int 0])
    have F4 := F4.same e10'
    have F9 := F9.same e10'
    have X1g := e10' _ _ X1g
    have e10 := e9.trans e10'
    have osl : os.length ≤ 12 := by rw [W.hgs.len]; exact g12
    generalize upd H9 zz (.tup [V.int 0, V.int 0, V.int 0]) = H10 at e10 X1g F4 F9 ⊢
    refine ⟨_, X1g, lt_big (by omega), ?_⟩
    have F4 := F4.chg X1g l2d.symm l2g.symm (Chg.upd (.lst (os ++ [V.ref zz])))
    have F9 := F9.chg X1g m1l2 m2l2 (Chg.upd (.lst (os ++ [V.ref zz])))
    have e11 := same_chg n2 e10 (Chg.upd (.lst (os ++ [V.ref zz])))
    generalize upd H10 l2 (.lst (os ++ [V.ref zz])) = H11 at e11 F4 F9 ⊢
    (try (walk_at "WP")); (try (refine seq_out hR_ ?_)); (try (refine seq_in fun R_ hR_ => ?_)); (try (walk_at "WP"))
    refine ne_webK F4 F9 ?_
    try walk_at "WP"
    have ol := trnO_len TW
    have i1 := TW.ok.i1
    refine ⟨f0, d3, g3, gs.length, xs, _, ys, _, μ', Bd, rfl, F4, TW', by omega, fun f1 d4 g4 xs' ys' H12 nf1 nd4 ng4 dg4 e12' F12 => ?_⟩
    have F4 := F4.same e12'
    have F9 := F9.same e12'
    have e12 := e11.trans e12'
    try walk_at "WP"
    refine ⟨x3, f1, m1, m2, d4, g4, gs.length, xs, _, ys, _, μ', Bd, xs', ys', rfl, F9, TW', by omega, by omega, F12, fun H13 e13' => ?_⟩
    have F4 := F4.same e13'
    have e13 := e12.trans e13'
    have hf := F4.tup
    (try (walk_at "WP")); (try (refine seq_out hR_ ?_)); (try (refine seq_in fun R_ hR_ => ?_)); (iterate 5 ((try (walk_at "WP")); (try (simp only [hf, Option.some.injEq, HO.tup.injEq, HO.lst.injEq, HO.dK.injEq, exists_eq_left', exists_eq_left])))); (try (walk_at "WP"))
    refine ⟨ty_list F4.dll, _, F4.dll, ?_⟩
    have hf14 : upd H13 d3 (.lst []) f0 = some (.tup [V.int ((gs.length : Nat) : Int), V.ref d3, V.ref g3]) := by rw [upd_ne (ne_of F4.tup F4.dll (by intro z; cases z))]; exact F4.tup
    have hg14 : upd H13 d3 (.lst []) g3 = some (.lst ys) := by rw [upd_ne dg3.symm]; exact F4.gll
    have e14 := same_chg nd3 e13 (Chg.upd (.lst []))
    generalize upd H13 d3 (.lst []) = H14 at e14 hf14 hg14 ⊢
    (try (walk_at "WP")); (try (refine seq_out hR_ ?_)); (try (refine seq_in fun R_ hR_ => ?_)); (iterate 5 ((try (walk_at "WP")); (try (simp only [hf14, Option.some.injEq, HO.tup.injEq, HO.lst.injEq, HO.dK.injEq, exists_eq_left', exists_eq_left])))); (try (walk_at "WP"))
    refine ⟨ty_list hg14, _, hg14, ?_⟩
    have e15 := same_chg ng3 e14 (Chg.upd (.lst []))
    generalize upd H14 g3 (.lst []) = H15 at e15 ⊢
    (try (walk_at "WP")); (try (refine seq_out hR_ ?_)); (try (refine seq_in fun R_ hR_ => ?_)); (try (walk_at "WP"))
    refine ⟨x, dl, gl, ins, us, ds, os, gs, μ, Bd, rfl, (W.same e15).wk, TW, hm, fun f2 d5 g5 xs5 ys5 H16 _ _ _ _ e16' F16 => ?_⟩
    have e16 := e15.trans e16'
    try walk_at "WP"
    refine ⟨x, f2, dl, gl, d5, g5, ins, us, ds, os, gs, μ, Bd, xs5, ys5, rfl, (W.same e16).wk, TW, hm, by omega, F16, fun H17 e17' => ?_⟩
    have eF := e16.trans e17'
    (try (walk_at "WP")); (try (refine seq_out hR_ ?_)); (try (refine seq_in fun R_ hR_ => ?_)); (try (walk_at "WP"))
    exact hN _ _ ⟨_, _, _, _, _, rfl, (hP.same eF).mono (by omega), hS.same eF⟩
  · rintro σ H2 ⟨o2, o3, o4, o5, o6, rfl, P2, S2⟩
    try walk_at "WP"
    exact q _
end

theorem ln1 {α : Type} {us : List α} (h : us.length = 1) : ∃ a0, us = [a0] := match us, h with | [a0], _ => ⟨a0, rfl⟩
theorem ln2 {α : Type} {us : List α} (h : us.length = 2) : ∃ a0 a1, us = [a0, a1] := match us, h with | [a0, a1], _ => ⟨a0, a1, rfl⟩
theorem ln3 {α : Type} {us : List α} (h : us.length = 3) : ∃ a0 a1 a2, us = [a0, a1, a2] := match us, h with | [a0, a1, a2], _ => ⟨a0, a1, a2, rfl⟩
theorem ln4 {α : Type} {us : List α} (h : us.length = 4) : ∃ a0 a1 a2 a3, us = [a0, a1, a2, a3] := match us, h with | [a0, a1, a2, a3], _ => ⟨a0, a1, a2, a3, rfl⟩
theorem all_mk {l : PySem.W.OpenLaw} {w : World} {K : PySem.W.Frag} {h : Heap} {mg : Str → Option Value} {fa : Addr} (X : K.In h) (G : h.Ns mainGlobals mg) (hfa : mg "law" = some (.ref fa))
    {f1 : Addr} {od1 an1 : Option Addr} {sl1 : Array (Option Value)} {oc1 kV1 dc1 pm1 cd1 ct1 : Value} {f2 : Addr} {od2 an2 : Option Addr} {sl2 : Array (Option Value)} {oc2 kV2 dc2 pm2 cd2 ct2 : Value} {f3 : Addr} {od3 an3 : Option Addr} {sl3 : Array (Option Value)} {oc3 kV3 dc3 pm3 cd3 ct3 : Value} {f4 : Addr} {od4 an4 : Option Addr} {sl4 : Array (Option Value)} {oc4 kV4 dc4 pm4 cd4 ct4 : Value} {f5 : Addr} {od5 an5 : Option Addr} {sl5 : Array (Option Value)} {oc5 kV5 dc5 pm5 cd5 ct5 : Value} {f6 : Addr} {od6 an6 : Option Addr} {sl6 : Array (Option Value)} {oc6 kV6 dc6 pm6 cd6 ct6 : Value} {f7 : Addr} {od7 an7 : Option Addr} {sl7 : Array (Option Value)} {oc7 kV7 dc7 pm7 cd7 ct7 : Value} {f8 : Addr} {od8 an8 : Option Addr} {sl8 : Array (Option Value)} {oc8 kV8 dc8 pm8 cd8 ct8 : Value} {f9 : Addr} {od9 an9 : Option Addr} {sl9 : Array (Option Value)} {oc9 kV9 dc9 pm9 cd9 ct9 : Value} {f10 : Addr} {od10 an10 : Option Addr} {sl10 : Array (Option Value)} {oc10 kV10 dc10 pm10 cd10 ct10 : Value} {f11 : Addr} {od11 an11 : Option Addr} {sl11 : Array (Option Value)} {oc11 kV11 dc11 pm11 cd11 ct11 : Value} {f12 : Addr} {od12 an12 : Option Addr} {sl12 : Array (Option Value)} {oc12 kV12 dc12 pm12 cd12 ct12 : Value} {f13 : Addr} {od13 an13 : Option Addr} {sl13 : Array (Option Value)} {oc13 kV13 dc13 pm13 cd13 ct13 : Value} {f14 : Addr} {od14 an14 : Option Addr} {sl14 : Array (Option Value)} {oc14 kV14 dc14 pm14 cd14 ct14 : Value} {f15 : Addr} {od15 an15 : Option Addr} {sl15 : Array (Option Value)} {oc15 kV15 dc15 pm15 cd15 ct15 : Value} {f16 : Addr} {od16 an16 : Option Addr} {sl16 : Array (Option Value)} {oc16 kV16 dc16 pm16 cd16 ct16 : Value} {f17 : Addr} {od17 an17 : Option Addr} {sl17 : Array (Option Value)} {oc17 kV17 dc17 pm17 cd17 ct17 : Value} {f18 : Addr} {od18 an18 : Option Addr} {sl18 : Array (Option Value)} {oc18 kV18 dc18 pm18 cd18 ct18 : Value} {f19 : Addr} {od19 an19 : Option Addr} {sl19 : Array (Option Value)} {oc19 kV19 dc19 pm19 cd19 ct19 : Value} {f20 : Addr} {od20 an20 : Option Addr} {sl20 : Array (Option Value)} {oc20 kV20 dc20 pm20 cd20 ct20 : Value} {f21 : Addr} {od21 an21 : Option Addr} {sl21 : Array (Option Value)} {oc21 kV21 dc21 pm21 cd21 ct21 : Value} {f22 : Addr} {od22 an22 : Option Addr} {sl22 : Array (Option Value)} {oc22 kV22 dc22 pm22 cd22 ct22 : Value} {f23 : Addr} {od23 an23 : Option Addr} {sl23 : Array (Option Value)} {oc23 kV23 dc23 pm23 cd23 ct23 : Value} {fc1 : Addr} {oe1 : Option Addr} {sm1 : Array (Option Value)} {nc1 : Nat} {ta1 tb1 td1 : Tok}
    (a1 : PySem.W.nsIn K mainGlobals "second_sign" = some (some (.ref f1))) (l1 : K.lookup f1 = some ⟨oc1, od1, .func (PySem.W.fnOf "second_sign" "second_sign" (defArgs s_second_sign) (defBody s_second_sign) (defScope s_second_sign) .none kV1 dc1 pm1 an1 cd1 ct1), sl1⟩) (c1 : PySem.W.codeIn K cd1 "second_sign" = true) (k1 : PySem.W.keepIn K (.ref f1) = true)
    (a2 : PySem.W.nsIn K mainGlobals "arrows" = some (some (.ref f2))) (l2 : K.lookup f2 = some ⟨oc2, od2, .func (PySem.W.fnOf "arrows" "arrows" (defArgs s_arrows) (defBody s_arrows) (defScope s_arrows) .none kV2 dc2 pm2 an2 cd2 ct2), sl2⟩) (c2 : PySem.W.codeIn K cd2 "arrows" = true) (k2 : PySem.W.keepIn K (.ref f2) = true)
    (a3 : PySem.W.nsIn K mainGlobals "deed_arrows" = some (some (.ref f3))) (l3 : K.lookup f3 = some ⟨oc3, od3, .func (PySem.W.fnOf "deed_arrows" "deed_arrows" (defArgs s_deed_arrows) (defBody s_deed_arrows) (defScope s_deed_arrows) .none kV3 dc3 pm3 an3 cd3 ct3), sl3⟩) (c3 : PySem.W.codeIn K cd3 "deed_arrows" = true) (k3 : PySem.W.keepIn K (.ref f3) = true)
    (a4 : PySem.W.nsIn K mainGlobals "out_arrows" = some (some (.ref f4))) (l4 : K.lookup f4 = some ⟨oc4, od4, .func (PySem.W.fnOf "out_arrows" "out_arrows" (defArgs s_out_arrows) (defBody s_out_arrows) (defScope s_out_arrows) .none kV4 dc4 pm4 an4 cd4 ct4), sl4⟩) (c4 : PySem.W.codeIn K cd4 "out_arrows" = true) (k4 : PySem.W.keepIn K (.ref f4) = true)
    (a5 : PySem.W.nsIn K mainGlobals "thing_count" = some (some (.ref f5))) (l5 : K.lookup f5 = some ⟨oc5, od5, .func (PySem.W.fnOf "thing_count" "thing_count" (defArgs s_thing_count) (defBody s_thing_count) (defScope s_thing_count) .none kV5 dc5 pm5 an5 cd5 ct5), sl5⟩) (c5 : PySem.W.codeIn K cd5 "thing_count" = true) (k5 : PySem.W.keepIn K (.ref f5) = true)
    (a6 : PySem.W.nsIn K mainGlobals "moved" = some (some (.ref f6))) (l6 : K.lookup f6 = some ⟨oc6, od6, .func (PySem.W.fnOf "moved" "moved" (defArgs s_moved) (defBody s_moved) (defScope s_moved) .none kV6 dc6 pm6 an6 cd6 ct6), sl6⟩) (c6 : PySem.W.codeIn K cd6 "moved" = true) (k6 : PySem.W.keepIn K (.ref f6) = true)
    (a7 : PySem.W.nsIn K mainGlobals "deed_of" = some (some (.ref f7))) (l7 : K.lookup f7 = some ⟨oc7, od7, .func (PySem.W.fnOf "deed_of" "deed_of" (defArgs s_deed_of) (defBody s_deed_of) (defScope s_deed_of) .none kV7 dc7 pm7 an7 cd7 ct7), sl7⟩) (c7 : PySem.W.codeIn K cd7 "deed_of" = true) (k7 : PySem.W.keepIn K (.ref f7) = true)
    (a8 : PySem.W.nsIn K mainGlobals "sign_of" = some (some (.ref f8))) (l8 : K.lookup f8 = some ⟨oc8, od8, .func (PySem.W.fnOf "sign_of" "sign_of" (defArgs s_sign_of) (defBody s_sign_of) (defScope s_sign_of) .none kV8 dc8 pm8 an8 cd8 ct8), sl8⟩) (c8 : PySem.W.codeIn K cd8 "sign_of" = true) (k8 : PySem.W.keepIn K (.ref f8) = true)
    (a9 : PySem.W.nsIn K mainGlobals "add_sum" = some (some (.ref f9))) (l9 : K.lookup f9 = some ⟨oc9, od9, .func (PySem.W.fnOf "add_sum" "add_sum" (defArgs s_add_sum) (defBody s_add_sum) (defScope s_add_sum) .none kV9 dc9 pm9 an9 cd9 ct9), sl9⟩) (c9 : PySem.W.codeIn K cd9 "add_sum" = true) (k9 : PySem.W.keepIn K (.ref f9) = true)
    (a10 : PySem.W.nsIn K mainGlobals "turned" = some (some (.ref f10))) (l10 : K.lookup f10 = some ⟨oc10, od10, .func (PySem.W.fnOf "turned" "turned" (defArgs s_turned) (defBody s_turned) (defScope s_turned) .none kV10 dc10 pm10 an10 cd10 ct10), sl10⟩) (c10 : PySem.W.codeIn K cd10 "turned" = true) (k10 : PySem.W.keepIn K (.ref f10) = true)
    (a11 : PySem.W.nsIn K mainGlobals "refuse_down" = some (some (.ref f11))) (l11 : K.lookup f11 = some ⟨oc11, od11, .func (PySem.W.fnOf "refuse_down" "refuse_down" (defArgs s_refuse_down) (defBody s_refuse_down) (defScope s_refuse_down) .none kV11 dc11 pm11 an11 cd11 ct11), sl11⟩) (c11 : PySem.W.codeIn K cd11 "refuse_down" = true) (k11 : PySem.W.keepIn K (.ref f11) = true)
    (a12 : PySem.W.nsIn K mainGlobals "_law_pen" = some (some (.ref f12))) (l12 : K.lookup f12 = some ⟨oc12, od12, .func (PySem.W.fnOf "_law_pen" "_law_pen" (defArgs s_l_pen) (defBody s_l_pen) (defScope s_l_pen) .none kV12 dc12 pm12 an12 cd12 ct12), sl12⟩) (c12 : PySem.W.codeIn K cd12 "_law_pen" = true) (k12 : PySem.W.keepIn K (.ref f12) = true)
    (a13 : PySem.W.nsIn K mainGlobals "_law_take" = some (some (.ref f13))) (l13 : K.lookup f13 = some ⟨oc13, od13, .func (PySem.W.fnOf "_law_take" "_law_take" (defArgs s_l_take) (defBody s_l_take) (defScope s_l_take) .none kV13 dc13 pm13 an13 cd13 ct13), sl13⟩) (c13 : PySem.W.codeIn K cd13 "_law_take" = true) (k13 : PySem.W.keepIn K (.ref f13) = true)
    (a14 : PySem.W.nsIn K mainGlobals "_law_whole" = some (some (.ref f14))) (l14 : K.lookup f14 = some ⟨oc14, od14, .func (PySem.W.fnOf "_law_whole" "_law_whole" (defArgs s_l_whole) (defBody s_l_whole) (defScope s_l_whole) .none kV14 dc14 pm14 an14 cd14 ct14), sl14⟩) (c14 : PySem.W.codeIn K cd14 "_law_whole" = true) (k14 : PySem.W.keepIn K (.ref f14) = true)
    (a15 : PySem.W.nsIn K mainGlobals "_law_part" = some (some (.ref f15))) (l15 : K.lookup f15 = some ⟨oc15, od15, .func (PySem.W.fnOf "_law_part" "_law_part" (defArgs s_l_part) (defBody s_l_part) (defScope s_l_part) .none kV15 dc15 pm15 an15 cd15 ct15), sl15⟩) (c15 : PySem.W.codeIn K cd15 "_law_part" = true) (k15 : PySem.W.keepIn K (.ref f15) = true)
    (a16 : PySem.W.nsIn K mainGlobals "_law_come" = some (some (.ref f16))) (l16 : K.lookup f16 = some ⟨oc16, od16, .func (PySem.W.fnOf "_law_come" "_law_come" (defArgs s_l_come) (defBody s_l_come) (defScope s_l_come) .none kV16 dc16 pm16 an16 cd16 ct16), sl16⟩) (c16 : PySem.W.codeIn K cd16 "_law_come" = true) (k16 : PySem.W.keepIn K (.ref f16) = true)
    (a17 : PySem.W.nsIn K mainGlobals "_law_goal" = some (some (.ref f17))) (l17 : K.lookup f17 = some ⟨oc17, od17, .func (PySem.W.fnOf "_law_goal" "_law_goal" (defArgs s_l_goal) (defBody s_l_goal) (defScope s_l_goal) .none kV17 dc17 pm17 an17 cd17 ct17), sl17⟩) (c17 : PySem.W.codeIn K cd17 "_law_goal" = true) (k17 : PySem.W.keepIn K (.ref f17) = true)
    (a18 : PySem.W.nsIn K mainGlobals "_law_outs" = some (some (.ref f18))) (l18 : K.lookup f18 = some ⟨oc18, od18, .func (PySem.W.fnOf "_law_outs" "_law_outs" (defArgs s_l_outs) (defBody s_l_outs) (defScope s_l_outs) .none kV18 dc18 pm18 an18 cd18 ct18), sl18⟩) (c18 : PySem.W.codeIn K cd18 "_law_outs" = true) (k18 : PySem.W.keepIn K (.ref f18) = true)
    (a19 : PySem.W.nsIn K mainGlobals "_law_up" = some (some (.ref f19))) (l19 : K.lookup f19 = some ⟨oc19, od19, .func (PySem.W.fnOf "_law_up" "_law_up" (defArgs s_l_up) (defBody s_l_up) (defScope s_l_up) .none kV19 dc19 pm19 an19 cd19 ct19), sl19⟩) (c19 : PySem.W.codeIn K cd19 "_law_up" = true) (k19 : PySem.W.keepIn K (.ref f19) = true)
    (a20 : PySem.W.nsIn K mainGlobals "_law_web" = some (some (.ref f20))) (l20 : K.lookup f20 = some ⟨oc20, od20, .func (PySem.W.fnOf "_law_web" "_law_web" (defArgs s_l_web) (defBody s_l_web) (defScope s_l_web) .none kV20 dc20 pm20 an20 cd20 ct20), sl20⟩) (c20 : PySem.W.codeIn K cd20 "_law_web" = true) (k20 : PySem.W.keepIn K (.ref f20) = true)
    (a21 : PySem.W.nsIn K mainGlobals "_law_most" = some (some (.ref f21))) (l21 : K.lookup f21 = some ⟨oc21, od21, .func (PySem.W.fnOf "_law_most" "_law_most" (defArgs s_l_most) (defBody s_l_most) (defScope s_l_most) .none kV21 dc21 pm21 an21 cd21 ct21), sl21⟩) (c21 : PySem.W.codeIn K cd21 "_law_most" = true) (k21 : PySem.W.keepIn K (.ref f21) = true)
    (a22 : PySem.W.nsIn K mainGlobals "_law_right" = some (some (.ref f22))) (l22 : K.lookup f22 = some ⟨oc22, od22, .func (PySem.W.fnOf "_law_right" "_law_right" (defArgs s_l_right) (defBody s_l_right) (defScope s_l_right) .none kV22 dc22 pm22 an22 cd22 ct22), sl22⟩) (c22 : PySem.W.codeIn K cd22 "_law_right" = true) (k22 : PySem.W.keepIn K (.ref f22) = true)
    (a23 : PySem.W.nsIn K mainGlobals "law" = some (some (.ref f23))) (l23 : K.lookup f23 = some ⟨oc23, od23, .func (PySem.W.fnOf "law" "law" (defArgs s_law) (defBody s_law) (defScope s_law) .none kV23 dc23 pm23 an23 cd23 ct23), sl23⟩) (c23 : PySem.W.codeIn K cd23 "law" = true) (k23 : PySem.W.keepIn K (.ref f23) = true)
    (ac1 : PySem.W.nsIn K mainGlobals "NO_OUT" = some (some (.ref fc1))) (lc1 : K.lookup fc1 = some ⟨.type "tuple", oe1, .seq #[.int 0 ta1, .int 0 tb1, .int 0 td1] nc1, sm1⟩)
    (z1 : PySem.W.nsIn K mainGlobals "abs" = some none)
    (z2 : PySem.W.nsIn K mainGlobals "bool" = some none)
    (z3 : PySem.W.nsIn K mainGlobals "enumerate" = some none)
    (z4 : PySem.W.nsIn K mainGlobals "int" = some none)
    (z5 : PySem.W.nsIn K mainGlobals "isinstance" = some none)
    (z6 : PySem.W.nsIn K mainGlobals "len" = some none)
    (z7 : PySem.W.nsIn K mainGlobals "list" = some none)
    (z8 : PySem.W.nsIn K mainGlobals "range" = some none)
    (z9 : PySem.W.nsIn K mainGlobals "reversed" = some none)
    (z10 : PySem.W.nsIn K mainGlobals "str" = some none)
    (z11 : PySem.W.nsIn K mainGlobals "tuple" = some none)
    (z12 : PySem.W.nsIn K mainGlobals "zip" = some none)
    : ∃ fd : FuncData, (∀ (s : Shared) (v : Value), BindsTo s fd ⟨[v], []⟩ [("_law_script", v)]) ∧ ∀ base : Heap, K.In base → base.Ns mainGlobals mg → FnOk l.prog w K mg base CX0 20 fa fd ["_law_script"] (spLaw K) := by
  have e := hfa.symm.trans (PySem.W.mg_of X G a23)
  cases e
  have F1 := fun_mk (st := s_second_sign) l1 c1 k1
  have b1 := F1.binds (ps := ["deed"]) fun _ _ _ _ _ _ us hl => by obtain ⟨a0_, rfl⟩ := ln1 (us := us) hl; rfl
  have F2 := fun_mk (st := s_arrows) l2 c2 k2
  have b2 := F2.binds (ps := ["web"]) fun _ _ _ _ _ _ us hl => by obtain ⟨a0_, rfl⟩ := ln1 (us := us) hl; rfl
  have F3 := fun_mk (st := s_deed_arrows) l3 c3 k3
  have b3 := F3.binds (ps := ["web"]) fun _ _ _ _ _ _ us hl => by obtain ⟨a0_, rfl⟩ := ln1 (us := us) hl; rfl
  have F4 := fun_mk (st := s_out_arrows) l4 c4 k4
  have b4 := F4.binds (ps := ["web"]) fun _ _ _ _ _ _ us hl => by obtain ⟨a0_, rfl⟩ := ln1 (us := us) hl; rfl
  have F5 := fun_mk (st := s_thing_count) l5 c5 k5
  have b5 := F5.binds (ps := ["web"]) fun _ _ _ _ _ _ us hl => by obtain ⟨a0_, rfl⟩ := ln1 (us := us) hl; rfl
  have F6 := fun_mk (st := s_moved) l6 c6 k6
  have b6 := F6.binds (ps := ["part", "shift", "sign"]) fun _ _ _ _ _ _ us hl => by obtain ⟨a0_, a1_, a2_, rfl⟩ := ln3 (us := us) hl; rfl
  have F7 := fun_mk (st := s_deed_of) l7 c7 k7
  have b7 := F7.binds (ps := ["one", "other"]) fun _ _ _ _ _ _ us hl => by obtain ⟨a0_, a1_, rfl⟩ := ln2 (us := us) hl; rfl
  have F8 := fun_mk (st := s_sign_of) l8 c8 k8
  have b8 := F8.binds (ps := ["one", "other"]) fun _ _ _ _ _ _ us hl => by obtain ⟨a0_, a1_, rfl⟩ := ln2 (us := us) hl; rfl
  have F9 := fun_mk (st := s_add_sum) l9 c9 k9
  have b9 := F9.binds (ps := ["ins", "deeds", "one", "other"]) fun _ _ _ _ _ _ us hl => by obtain ⟨a0_, a1_, a2_, a3_, rfl⟩ := ln4 (us := us) hl; rfl
  have F10 := fun_mk (st := s_turned) l10 c10 k10
  have b10 := F10.binds (ps := ["web"]) fun _ _ _ _ _ _ us hl => by obtain ⟨a0_, rfl⟩ := ln1 (us := us) hl; rfl
  have F11 := fun_mk (st := s_refuse_down) l11 c11 k11
  have b11 := F11.binds (ps := ["web"]) fun _ _ _ _ _ _ us hl => by obtain ⟨a0_, rfl⟩ := ln1 (us := us) hl; rfl
  have F12 := fun_mk (st := s_l_pen) l12 c12 k12
  have b12 := F12.binds (ps := ["_law_script"]) fun _ _ _ _ _ _ us hl => by obtain ⟨a0_, rfl⟩ := ln1 (us := us) hl; rfl
  have F13 := fun_mk (st := s_l_take) l13 c13 k13
  have b13 := F13.binds (ps := ["_law_pen_here", "_law_many"]) fun _ _ _ _ _ _ us hl => by obtain ⟨a0_, a1_, rfl⟩ := ln2 (us := us) hl; rfl
  have F14 := fun_mk (st := s_l_whole) l14 c14 k14
  have b14 := F14.binds (ps := ["_law_thing"]) fun _ _ _ _ _ _ us hl => by obtain ⟨a0_, rfl⟩ := ln1 (us := us) hl; rfl
  have F15 := fun_mk (st := s_l_part) l15 c15 k15
  have b15 := F15.binds (ps := ["_law_things_by", "_law_thing", "_law_shift", "_law_sign"]) fun _ _ _ _ _ _ us hl => by obtain ⟨a0_, a1_, a2_, a3_, rfl⟩ := ln4 (us := us) hl; rfl
  have F16 := fun_mk (st := s_l_come) l16 c16 k16
  have b16 := F16.binds (ps := ["_law_things_by", "_law_deed"]) fun _ _ _ _ _ _ us hl => by obtain ⟨a0_, a1_, rfl⟩ := ln2 (us := us) hl; rfl
  have F17 := fun_mk (st := s_l_goal) l17 c17 k17
  have b17 := F17.binds (ps := ["_law_things_by", "_law_goal_here"]) fun _ _ _ _ _ _ us hl => by obtain ⟨a0_, a1_, rfl⟩ := ln2 (us := us) hl; rfl
  have F18 := fun_mk (st := s_l_outs) l18 c18 k18
  have b18 := F18.binds (ps := ["_law_web_here", "_law_ins"]) fun _ _ _ _ _ _ us hl => by obtain ⟨a0_, a1_, rfl⟩ := ln2 (us := us) hl; rfl
  have F19 := fun_mk (st := s_l_up) l19 c19 k19
  have b19 := F19.binds (ps := ["_law_pen_here"]) fun _ _ _ _ _ _ us hl => by obtain ⟨a0_, rfl⟩ := ln1 (us := us) hl; rfl
  have F20 := fun_mk (st := s_l_web) l20 c20 k20
  have b20 := F20.binds (ps := ["_law_pen_here"]) fun _ _ _ _ _ _ us hl => by obtain ⟨a0_, rfl⟩ := ln1 (us := us) hl; rfl
  have F21 := fun_mk (st := s_l_most) l21 c21 k21
  have b21 := F21.binds (ps := ["_law_web_here"]) fun _ _ _ _ _ _ us hl => by obtain ⟨a0_, rfl⟩ := ln1 (us := us) hl; rfl
  have F22 := fun_mk (st := s_l_right) l22 c22 k22
  have b22 := F22.binds (ps := ["_law_web_here", "_law_found"]) fun _ _ _ _ _ _ us hl => by obtain ⟨a0_, a1_, rfl⟩ := ln2 (us := us) hl; rfl
  have F23 := fun_mk (st := s_law) l23 c23 k23
  have b23 := F23.binds (ps := ["_law_script"]) fun _ _ _ _ _ _ us hl => by obtain ⟨a0_, rfl⟩ := ln1 (us := us) hl; rfl
  have T : Txt K mg := ⟨⟨PySem.W.mg_none_of X G z1, PySem.W.mg_none_of X G z2, PySem.W.mg_none_of X G z3, PySem.W.mg_none_of X G z4, PySem.W.mg_none_of X G z5, PySem.W.mg_none_of X G z6, PySem.W.mg_none_of X G z7, PySem.W.mg_none_of X G z8, PySem.W.mg_none_of X G z9, PySem.W.mg_none_of X G z10, PySem.W.mg_none_of X G z11, PySem.W.mg_none_of X G z12⟩, ⟨_, _, F1, PySem.W.mg_of X G a1, b1⟩, ⟨_, _, F2, PySem.W.mg_of X G a2, b2⟩, ⟨_, _, F3, PySem.W.mg_of X G a3, b3⟩, ⟨_, _, F4, PySem.W.mg_of X G a4, b4⟩, ⟨_, _, F5, PySem.W.mg_of X G a5, b5⟩, ⟨_, _, F6, PySem.W.mg_of X G a6, b6⟩, ⟨_, _, F7, PySem.W.mg_of X G a7, b7⟩, ⟨_, _, F8, PySem.W.mg_of X G a8, b8⟩, ⟨_, _, F9, PySem.W.mg_of X G a9, b9⟩, ⟨_, _, F10, PySem.W.mg_of X G a10, b10⟩, ⟨_, _, F11, PySem.W.mg_of X G a11, b11⟩, ⟨_, _, F12, PySem.W.mg_of X G a12, b12⟩, ⟨_, _, F13, PySem.W.mg_of X G a13, b13⟩, ⟨_, _, F14, PySem.W.mg_of X G a14, b14⟩, ⟨_, _, F15, PySem.W.mg_of X G a15, b15⟩, ⟨_, _, F16, PySem.W.mg_of X G a16, b16⟩, ⟨_, _, F17, PySem.W.mg_of X G a17, b17⟩, ⟨_, _, F18, PySem.W.mg_of X G a18, b18⟩, ⟨_, _, F19, PySem.W.mg_of X G a19, b19⟩, ⟨_, _, F20, PySem.W.mg_of X G a20, b20⟩, ⟨_, _, F21, PySem.W.mg_of X G a21, b21⟩, ⟨_, _, F22, PySem.W.mg_of X G a22, b22⟩, ⟨_, _, F23, PySem.W.mg_of X G a23, b23⟩, ⟨fc1, PySem.W.mg_of X G ac1, _, _, _, lc1, rfl, rfl, le_size (by show 3 ≤ 1000; decide), .cons ⟨_, rfl⟩ (.cons ⟨_, rfl⟩ (.cons ⟨_, rfl⟩ .nil))⟩⟩
  refine ⟨PySem.W.fnOf "law" "law" (defArgs s_law) (defBody s_law) (defScope s_law) .none kV23 dc23 pm23 an23 cd23 ct23, fun s v => .of_eq rfl, fun base _ _ => ?_⟩
  exact ok_law T F23
theorem walk {l : PySem.W.OpenLaw} {q : Program} {loose : List Str} {XP : (Str → Option Value) → Heap → Prop} {YP : World → Heap → Prop} {d : DefRec} {K : Params → PySem.W.Frag} (hn : l.most = some 63) (hdf : d.params.defaults = [])
    (hY : ∀ (w : World) (h : Heap), YP w h → (K w.params).In h)
    (F : ∀ (w : World) (mg : Str → Option Value) (fa : Addr) (h : Heap), (K w.params).In h → h.Ns mainGlobals mg → mg d.name = some (.ref fa) →
      ∃ fd : FuncData, (∀ (s : Shared) (u : Value), BindsTo s fd ⟨[u], []⟩ [("_law_script", u)]) ∧ ∀ base : Heap, (K w.params).In base → base.Ns mainGlobals mg → FnOk l.prog w (K w.params) mg base CX0 20 fa fd ["_law_script"] (spLaw (K w.params))) :
    PySem.W.WalkO q loose XP YP l.row.toRowW d [] (fun f vs => PySem.call f vs) :=
  L2.walk_of (n := 63) (k := 20) (x := "_law_script") (CX := fun _ => CX0) (sp := fun w => spLaw (K w.params)) hn (by decide) hdf ⟨rfl, by decide, by decide⟩ hY F (fun _ _ a ns hl hO hS => ⟨a, ns, rfl, scr_of hO hS, hl, fun _ => rfl⟩) fun _ _ _ _ _ z => z
end Law
open PySem PySem.W PyProof.Rows
set_option maxRecDepth 100000 in
set_option maxHeartbeats 0 in
theorem PySem.Challenge.cw_shiftsums_k42_webs_turned_about_holds : PySem.Challenge.rw_shiftsums_k42_webs_turned_about.Holds := by
  w_on; o_law; k_head; (case hw => w_witness2)
  k_fill
  refine Law.walk (l := PySem.Challenge.rw_shiftsums_k42_webs_turned_about) rfl rfl (fun w h Y => PySem.W.kIn_of Y) ?F
  case F =>
    intro w mg fa h KX G hmg
    refine' Law.all_mk KX G hmg ?a1 ?l1 ?c1 ?k1 ?a2 ?l2 ?c2 ?k2 ?a3 ?l3 ?c3 ?k3 ?a4 ?l4 ?c4 ?k4 ?a5 ?l5 ?c5 ?k5 ?a6 ?l6 ?c6 ?k6 ?a7 ?l7 ?c7 ?k7 ?a8 ?l8 ?c8 ?k8 ?a9 ?l9 ?c9 ?k9 ?a10 ?l10 ?c10 ?k10 ?a11 ?l11 ?c11 ?k11 ?a12 ?l12 ?c12 ?k12 ?a13 ?l13 ?c13 ?k13 ?a14 ?l14 ?c14 ?k14 ?a15 ?l15 ?c15 ?k15 ?a16 ?l16 ?c16 ?k16 ?a17 ?l17 ?c17 ?k17 ?a18 ?l18 ?c18 ?k18 ?a19 ?l19 ?c19 ?k19 ?a20 ?l20 ?c20 ?k20 ?a21 ?l21 ?c21 ?k21 ?a22 ?l22 ?c22 ?k22 ?a23 ?l23 ?c23 ?k23 ?ac1 ?lc1 ?z1 ?z2 ?z3 ?z4 ?z5 ?z6 ?z7 ?z8 ?z9 ?z10 ?z11 ?z12
    (case a1 => k_is); (case l1 => k_is); (case c1 => k_is); (case k1 => k_is)
    (case a2 => k_is); (case l2 => k_is); (case c2 => k_is); (case k2 => k_is)
    (case a3 => k_is); (case l3 => k_is); (case c3 => k_is); (case k3 => k_is)
    (case a4 => k_is); (case l4 => k_is); (case c4 => k_is); (case k4 => k_is)
    (case a5 => k_is); (case l5 => k_is); (case c5 => k_is); (case k5 => k_is)
    (case a6 => k_is); (case l6 => k_is); (case c6 => k_is); (case k6 => k_is)
    (case a7 => k_is); (case l7 => k_is); (case c7 => k_is); (case k7 => k_is)
    (case a8 => k_is); (case l8 => k_is); (case c8 => k_is); (case k8 => k_is)
    (case a9 => k_is); (case l9 => k_is); (case c9 => k_is); (case k9 => k_is)
    (case a10 => k_is); (case l10 => k_is); (case c10 => k_is); (case k10 => k_is)
    (case a11 => k_is); (case l11 => k_is); (case c11 => k_is); (case k11 => k_is)
    (case a12 => k_is); (case l12 => k_is); (case c12 => k_is); (case k12 => k_is)
    (case a13 => k_is); (case l13 => k_is); (case c13 => k_is); (case k13 => k_is)
    (case a14 => k_is); (case l14 => k_is); (case c14 => k_is); (case k14 => k_is)
    (case a15 => k_is); (case l15 => k_is); (case c15 => k_is); (case k15 => k_is)
    (case a16 => k_is); (case l16 => k_is); (case c16 => k_is); (case k16 => k_is)
    (case a17 => k_is); (case l17 => k_is); (case c17 => k_is); (case k17 => k_is)
    (case a18 => k_is); (case l18 => k_is); (case c18 => k_is); (case k18 => k_is)
    (case a19 => k_is); (case l19 => k_is); (case c19 => k_is); (case k19 => k_is)
    (case a20 => k_is); (case l20 => k_is); (case c20 => k_is); (case k20 => k_is)
    (case a21 => k_is); (case l21 => k_is); (case c21 => k_is); (case k21 => k_is)
    (case a22 => k_is); (case l22 => k_is); (case c22 => k_is); (case k22 => k_is)
    (case a23 => k_is); (case l23 => k_is); (case c23 => k_is); (case k23 => k_is)
    (case ac1 => k_is); (case lc1 => k_is); (case z1 => k_is); (case z2 => k_is)
    (case z3 => k_is); (case z4 => k_is); (case z5 => k_is); (case z6 => k_is)
    (case z7 => k_is); (case z8 => k_is); (case z9 => k_is); (case z10 => k_is)
    (case z11 => k_is); (case z12 => k_is)
end
