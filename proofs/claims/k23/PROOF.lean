import PyProof.Rows.All
import Wide.All
import OpenK.AllK
import Wide.FinOn
import Lean
import PyProof.EqAt
import PyProof.EqKinds
import PyProof.TupleCall
import PyProof.NeKinds
import KE.KMinBuiltin
import PyProof.Rows.CallKwBuiltin
import KE.KDictList
import PyProof.ZipIter
import PyProof.EnumFor
import PyProof.EnumMake
import PyProof.EnumStmt
import PyProof.Rows.Range3
import KE.KItemsList
import PyProof.ListRange
import KE.KIsAll
import PyProof.TupleIter
import PyProof.StationsW
import OpenK.KOwn
import PyProof.RulesDel
import PyProof.ExcArgsOwn
import PyProof.ExcAttrAll.ValueError
import PySem.Challenge.RW_shiftsums_k23_deep_rows
section
set_option Elab.async false
set_option linter.all false
set_option maxRecDepth 100000
namespace L2
open PySem PySem.Spec PyProof.Rows
abbrev Key := Sum Int Str
def keyIs : Key → Value → Bool
  | .inl k, v => Value.isInt k v
  | .inr x, v => Value.isStrOf x v
def keyH (w : World) : Key → Int
  | .inl k => hashInt k
  | .inr x => hashStr w x
theorem keyIs_shape : ∀ {k : Key} {v : Value}, keyIs k v = true → (∃ i t, k = Sum.inl i ∧ v = Value.int i t) ∨ (∃ x t, k = Sum.inr x ∧ v = Value.str x t)
  | .inl i, v, h => by
    obtain ⟨t, e⟩ := Value.isInt_shape (k := i) (v := v) h
    exact .inl ⟨i, t, rfl, e⟩
  | .inr x, v, h => by
    obtain ⟨t, e⟩ := Value.isStrOf_shape (x := x) (v := v) h
    exact .inr ⟨x, t, rfl, e⟩
theorem keyIs_int (i : Int) (t : Tok) : keyIs (.inl i) (.int i t) = true := by simp [keyIs, Value.isInt]
theorem keyIs_str (x : Str) (t : Tok) : keyIs (.inr x) (.str x t) = true := by simp [keyIs, Value.isStrOf]
theorem key_ll (a b : Int) : decide ((Sum.inl a : Key) = Sum.inl b) = (a == b) := by
  by_cases e : a = b
  · subst e; simp
  · have h : ¬ (Sum.inl a : Key) = Sum.inl b := fun q => e (Sum.inl.inj q)
    rw [decide_eq_false h]
    exact (beq_eq_false_iff_ne.mpr e).symm
theorem key_rr (a b : Str) : decide ((Sum.inr a : Key) = Sum.inr b) = decide (a = b) := by
  by_cases e : a = b
  · subst e; simp
  · have h : ¬ (Sum.inr a : Key) = Sum.inr b := fun q => e (Sum.inr.inj q)
    rw [decide_eq_false h, decide_eq_false e]
theorem key_lr (a : Int) (b : Str) : decide ((Sum.inl a : Key) = Sum.inr b) = false := decide_eq_false (fun q => nomatch q)
theorem key_rl (a : Str) (b : Int) : decide ((Sum.inr a : Key) = Sum.inl b) = false := decide_eq_false (fun q => nomatch q)
def mixKind (prog : Program) (w : World) : PySem.KeyKind prog w Key where
  is := keyIs
  hash := keyH w
  inj := fun v a b ha hb => by
    rcases keyIs_shape ha with ⟨i, t, rfl, rfl⟩ | ⟨x, t, rfl, rfl⟩
    · rcases keyIs_shape hb with ⟨j, u, rfl, e⟩ | ⟨y, u, rfl, e⟩
      · injection e with e1 _; rw [e1]
      · exact nomatch e
    · rcases keyIs_shape hb with ⟨j, u, rfl, e⟩ | ⟨y, u, rfl, e⟩
      · exact nomatch e
      · injection e with e1 _; rw [e1]
  byValue := fun k v h => by
    rcases keyIs_shape h with ⟨i, t, rfl, rfl⟩ | ⟨x, t, rfl, rfl⟩ <;> rfl
  pyHash := fun hv h => by
    rcases keyIs_shape hv with ⟨i, t, rfl, rfl⟩ | ⟨x, t, rfl, rfl⟩
    · exact wpAny_pyHash_int h
    · exact wpAny_pyHash_str h
  eqBool := fun hu hv h => by
    rcases keyIs_shape hu with ⟨i, t, rfl, rfl⟩ | ⟨x, t, rfl, rfl⟩
    · rcases keyIs_shape hv with ⟨j, u, rfl, rfl⟩ | ⟨y, u, rfl, rfl⟩
      · rw [key_ll] at h; exact wpAny_eqBool_int h
      · rw [key_lr] at h; exact SeqAt.EqAt.int_str i t y u _ _ _ _ h
    · rcases keyIs_shape hv with ⟨j, u, rfl, rfl⟩ | ⟨y, u, rfl, rfl⟩
      · rw [key_rl] at h; exact SeqAt.EqAt.str_int x t j u _ _ _ _ h
      · rw [key_rr] at h; exact wpAny_eqBool_str h
  «strs» := fun k x t v h => by
    rcases keyIs_shape h with ⟨i, u, rfl, e⟩ | ⟨y, u, rfl, e⟩
    · exact nomatch e
    · injection e with e1 _
      subst e1
      cases v <;> rfl
theorem mixKind_int (prog : Program) (w : World) (i : Int) (t : Tok) : (mixKind prog w).is (.inl i) (.int i t) = true := keyIs_int i t
theorem mixKind_str (prog : Program) (w : World) (x : Str) (t : Tok) : (mixKind prog w).is (.inr x) (.str x t) = true := keyIs_str x t
end L2
namespace L2
open PySem PySem.Spec PyProof.Rows
inductive V where
  | non | bl (b : Bool) | int (i : Int) | str (x : Str) | byt (b : Array UInt8) | flt (b : UInt64) | ref (a : Addr) | ty (n : String)
  deriving DecidableEq
def RelV : V → Value → Prop
  | .non, u => u = Value.none
  | .bl b, u => u = Value.bool b
  | .int i, u => ∃ t, u = Value.int i t
  | .str x, u => ∃ t, u = Value.str x t
  | .byt b, u => ∃ t, u = Value.bytes b t
  | .flt b, u => ∃ t, u = Value.float b t
  | .ref a, u => u = Value.ref a
  | .ty n, u => u = Value.type n
abbrev Vals : List V → List Value → Prop := Paired RelV
theorem Vals.length {xs : List V} {us : List Value} (r : Vals xs us) : xs.length = us.length := Paired.length r
theorem Vals.get : ∀ {xs : List V} {us : List Value} {i : Nat} {x : V}, Vals xs us → xs[i]? = some x → ∃ u, us[i]? = some u ∧ RelV x u
  | _, _, _, _, .nil, e => by simp at e
  | _, _, 0, _, .cons r _, e => by simp at e; subst e; exact ⟨_, rfl, r⟩
  | _, _, i + 1, x, .cons _ t, e => by
    obtain ⟨u, h1, h2⟩ := Vals.get (i := i) (x := x) t (by simpa using e)
    exact ⟨u, by simpa using h1, h2⟩
theorem Vals.set {x : V} {u : Value} (r : RelV x u) : ∀ {xs : List V} {us : List Value} (i : Nat), Vals xs us → Vals (xs.set i x) (us.set i u)
  | _, _, _, .nil => .nil
  | _, _, 0, .cons _ t => .cons r t
  | _, _, i + 1, .cons q t => .cons q (Vals.set r i t)
theorem Vals.append : ∀ {xs ys : List V} {us ws : List Value}, Vals xs us → Vals ys ws → Vals (xs ++ ys) (us ++ ws)
  | _, _, _, _, .nil, s => s
  | _, _, _, _, .cons r t, s => .cons r (Vals.append t s)
theorem Vals.take : ∀ {xs : List V} {us : List Value} (n : Nat), Vals xs us → Vals (xs.take n) (us.take n)
  | _, _, 0, _ => .nil
  | _, _, _ + 1, .nil => .nil
  | _, _, n + 1, .cons r t => .cons r (Vals.take n t)
theorem Vals.drop : ∀ {xs : List V} {us : List Value} (n : Nat), Vals xs us → Vals (xs.drop n) (us.drop n)
  | _, _, 0, r => r
  | _, _, _ + 1, .nil => .nil
  | _, _, n + 1, .cons _ t => Vals.drop n t
def RelO : Option V → Option Value → Prop
  | some v, some u => RelV v u
  | none, none => True
  | _, _ => False
def KV {κ : Type} : List (κ × V) → List (κ × Value) → Prop := Paired fun (p : κ × V) (q : κ × Value) => p.1 = q.1 ∧ RelV p.2 q.2
def kV : Key → V
  | .inl i => .int i
  | .inr x => .str x
inductive HO where
  | lst (xs : List V)
  | tup (xs : List V)
  | dK (kvs : List (Key × V)) | dT (kvs : List (List Key × V))
  | set (S : Int → Bool) (n : Nat)
  | ins (C dx : Addr) (fs : List (Str × V))
  | own (x : Addr)
  | xd (fs : List (Str × V))
  | met (f x : Addr)
  | rng (lo hi : Int)
  | frz (o : Obj) (u : HO)
  | tbl (ps : Array Value)
  | ext (φ : Heap → Prop)
abbrev Hp := Addr → Option HO
def upd (H : Hp) (a : Addr) (o : HO) : Hp := fun b => if b = a then some o else H b
theorem upd_same {H : Hp} {a : Addr} {o : HO} : upd H a o a = some o := by unfold upd; rw [if_pos rfl]
theorem upd_ne {H : Hp} {a b : Addr} {o : HO} (h : b ≠ a) : upd H a o b = H b := by unfold upd; rw [if_neg h]
theorem upd_upd {H : Hp} {a : Addr} {o u : HO} : upd (upd H a o) a u = upd H a u := by
  funext b; unfold upd; split <;> rfl
theorem ne_of {H : Hp} {a b : Addr} {o u : HO} (h : H a = some o) (h' : H b = some u) (d : o ≠ u) : a ≠ b := by
  intro e; subst e; rw [h] at h'; exact d (Option.some.inj h')
theorem ne_of_none {H : Hp} {a b : Addr} {o : HO} (h : H a = some o) (h' : H b = none) : a ≠ b := by
  intro e; subst e; rw [h] at h'; cases h'
section
variable (P : Program) (w : World)
def ObjOk (H : Hp) (h : Heap) (a : Addr) : HO → Prop
  | .lst xs => xs.length ≤ sizeLine ∧ ∃ (its : List Value) (n : Nat), Vals xs its ∧ h.get? a = some { cls := .type "list", data := .seq its.toArray n }
  | .tup xs => xs.length ≤ sizeLine ∧ ∃ its : List Value, Vals xs its ∧ IsTup h a its.toArray
  | .dK kvs => kvs.length ≤ sizeLine ∧ (a == sysModules) = false ∧ ∃ vs, KV kvs vs ∧ h.DictOf (mixKind P w) a vs
  | .dT kvs => kvs.length ≤ sizeLine ∧ (a == sysModules) = false ∧ ∃ xs : List (List Key × Addr × Value),
      Paired (fun (p : List Key × V) (q : List Key × Addr × Value) => p.1 = q.1 ∧ H q.2.1 = some (.tup (p.1.map kV)) ∧ RelV p.2 q.2.2) kvs xs ∧
      ∃ o es ep, h.get? a = some o ∧ o.ExactDict ∧ o.data = .dict es ep ∧ es.toList = xs.map (entryOfKey (tupleKind (mixKind P w))) ∧ (xs.map (·.1)).Nodup
  | .set S n => h.SetOf (intKind P w) a S n
  | .ins C dx fs => H dx = some (.own a) ∧ fs.length ≤ 1000 ∧ dx ≠ a ∧ h.get? a = some (PySem.W.instObj C dx) ∧
      ∃ mA, h.Ns1 dx mA ∧ (∀ f, RelO (fs.lookup f) (mA f)) ∧ PySem.Within mA (fs.map (·.1))
  | .own _ => ∃ o, h.get? a = some o
  | .xd fs => ∃ mA, h.Ns1 a mA ∧ ∀ f, RelO (fs.lookup f) (mA f)
  | .rng lo hi => ∃ t u v, h.get? a = some { cls := .type "range", data := .fields #[.int lo t, .int hi u, .int 1 v] }
  | .frz o u => h.get? a = some o ∧ ObjOk H h a u
  | .tbl ps => h.get? a = some { cls := .none, data := .fields ps }
  | .met f x => h.get? a = some (PySem.W.methodObj (.ref f) (.ref x))
  | .ext φ => φ h ∧ (∃ o, h.get? a = some o) ∧ ∀ h1 h2 : Heap, φ h1 → (∀ o, h1.get? a = some o → h2.get? a = some o) → φ h2
def HOk (H : Hp) (h : Heap) : Prop := ∀ a o, H a = some o → ObjOk P w H h a o
end
section
variable {P : Program} {w : World} {H H' : Hp} {h h' : Heap} {a : Addr} {o : HO}
theorem ObjOk.lt (x : ObjOk P w H h a o) : a < h.objs.size := by
  cases o with
  | lst xs => obtain ⟨_, _, _, _, e⟩ := x; exact Heap.lt_size e
  | tup xs => obtain ⟨_, _, _, p⟩ := x; exact p.lt
  | dK kvs => obtain ⟨_, _, _, _, o, _, _, e, _⟩ := x; exact Heap.lt_size e
  | dT kvs => obtain ⟨_, _, _, _, o, _, _, e, _⟩ := x; exact Heap.lt_size e
  | set S n => obtain ⟨o, _, _, _, e, _⟩ := x; exact Heap.lt_size e
  | ins C dx fs => obtain ⟨_, _, _, e, _⟩ := x; exact Heap.lt_size e
  | own y => obtain ⟨_, e⟩ := x; exact Heap.lt_size e
  | xd fs => obtain ⟨_, ⟨_, _, _, e, _⟩, _⟩ := x; exact Heap.lt_size e
  | rng lo hi => obtain ⟨_, _, _, e⟩ := x; exact Heap.lt_size e
  | frz ob u => obtain ⟨e, _⟩ := x; exact Heap.lt_size e
  | tbl ps => exact Heap.lt_size (show h.get? a = some _ from x)
  | met f y => exact Heap.lt_size (show h.get? a = some _ from x)
  | ext φ => obtain ⟨_, ⟨_, e⟩, _⟩ := x; exact Heap.lt_size e
theorem Paired.mapP {α β : Type} {F G : α → β → Prop} : ∀ {l₁ : List α} {l₂ : List β}, Paired F l₁ l₂ → (∀ a b, F a b → G a b) → Paired G l₁ l₂
  | _, _, .nil, _ => .nil
  | _, _, .cons r t, f => .cons (f _ _ r) (Paired.mapP t f)
theorem ObjOk.stay (x : ObjOk P w H h a o) (k : ∀ b u, (b = a ∨ H b = some (.own a)) → h.get? b = some u → h'.get? b = some u)
    (ho : ∀ b, H b = some (.own a) → H' b = some (.own a)) (ht : ∀ b xs, H b = some (.tup xs) → H' b = some (.tup xs)) : ObjOk P w H' h' a o := by
  induction o with
  | lst xs => obtain ⟨z, its, n, r, e⟩ := x; exact ⟨z, its, n, r, k _ _ (.inl rfl) e⟩
  | tup xs => obtain ⟨z, its, r, ob, e, c⟩ := x; exact ⟨z, its, r, ob, k _ _ (.inl rfl) e, c⟩
  | dK kvs => obtain ⟨z, y, vs, r, ob, es, ep, e, c⟩ := x; exact ⟨z, y, vs, r, ob, es, ep, k _ _ (.inl rfl) e, c⟩
  | dT kvs =>
    obtain ⟨z, y, xs, r, ob, es, ep, e, c⟩ := x
    exact ⟨z, y, xs, Paired.mapP r fun p q z => ⟨z.1, ht _ _ z.2.1, z.2.2⟩, ob, es, ep, k _ _ (.inl rfl) e, c⟩
  | set S n => obtain ⟨ob, es, ep, t, e, c⟩ := x; exact ⟨ob, es, ep, t, k _ _ (.inl rfl) e, c⟩
  | ins C dx fs =>
    obtain ⟨d, z, ne, e, mA, ⟨od, es, ep, e2, c⟩, r⟩ := x
    exact ⟨ho _ d, z, ne, k _ _ (.inl rfl) e, mA, ⟨od, es, ep, k _ _ (.inr d) e2, c⟩, r⟩
  | own y => obtain ⟨ob, e⟩ := x; exact ⟨ob, k _ _ (.inl rfl) e⟩
  | xd fs => obtain ⟨mA, ⟨od, es, ep, e, c⟩, r⟩ := x; exact ⟨mA, ⟨od, es, ep, k _ _ (.inl rfl) e, c⟩, r⟩
  | rng lo hi => obtain ⟨t, u, v, e⟩ := x; exact ⟨t, u, v, k _ _ (.inl rfl) e⟩
  | frz ob u ih => obtain ⟨e, q⟩ := x; exact ⟨k _ _ (.inl rfl) e, ih q⟩
  | tbl ps =>
    have e : h.get? a = some { cls := .none, data := .fields ps } := x
    show h'.get? a = some { cls := .none, data := .fields ps }
    exact k a _ (.inl rfl) e
  | met f y =>
    have e : h.get? a = some (PySem.W.methodObj (.ref f) (.ref y)) := x
    show h'.get? a = some (PySem.W.methodObj (.ref f) (.ref y))
    exact k a _ (.inl rfl) e
  | ext φ => obtain ⟨p, ⟨o, e⟩, st⟩ := x; exact ⟨st _ _ p fun o q => k _ _ (.inl rfl) q, ⟨o, k _ _ (.inl rfl) e⟩, st⟩
theorem HOk.lt (x : HOk P w H h) (e : H a = some o) : a < h.objs.size := (x a o e).lt
theorem HOk.fresh (x : HOk P w H h) (e : h.objs.size ≤ a) : H a = none := by
  cases q : H a with
  | none => rfl
  | some u => exact absurd (Nat.lt_of_lt_of_le (x.lt q) e) (Nat.lt_irrefl _)
theorem HOk.kept (x : HOk P w H h) (k : ∀ b u, h.get? b = some u → h'.get? b = some u) : HOk P w H h' := fun a o e =>
  (x a o e).stay (fun b u _ q => k b u q) (fun _ q => q) fun _ _ q => q
theorem HOk.laid (x : HOk P w H h) (k : ∀ b u, h.get? b = some u → h'.get? b = some u) (hp : h.objs.size ≤ a) (new : ObjOk P w (upd H a o) h' a o) : HOk P w (upd H a o) h' := fun b u e => by
  have hn := x.fresh hp
  by_cases hb : b = a
  · subst hb; rw [upd_same] at e; cases e; exact new
  · rw [upd_ne hb] at e
    exact (x b u e).stay (fun c v _ q => k c v q) (fun c q => by rw [upd_ne (ne_of_none q hn)]; exact q) fun c xs q => by rw [upd_ne (ne_of_none q hn)]; exact q
end
def Rd (H : Hp) (a : Addr) (u : HO) : Prop := H a = some u ∨ ∃ o, H a = some (.frz o u)
theorem Rd.of {H : Hp} {a : Addr} {u : HO} (h : H a = some u) : Rd H a u := .inl h
theorem Rd.ok {P : Program} {w : World} {H : Hp} {h : Heap} {a : Addr} {u : HO} (r : Rd H a u) (x : HOk P w H h) : ObjOk P w H h a u := by
  rcases r with r | ⟨o, r⟩
  · exact x a u r
  · obtain ⟨_, q⟩ := x a _ r
    exact q
def Mut : Option HO → Prop
  | some (.lst _) => True
  | some (.dK _) => True
  | some (.dT _) => True
  | some (.set _ _) => True
  | some (.ins _ _ _) => True
  | some (.ext _) => True
  | _ => False
section
variable {P : Program} {w : World} {H : Hp} {h h' : Heap} {x e : Addr} {o' : HO}
theorem HOk.write (ok : HOk P w H h) (mu : Mut (H x)) (he : e = x ∨ H e = some (.own x)) (k : ∀ b u, b ≠ e → h.get? b = some u → h'.get? b = some u) (heo : ∃ u, h'.get? e = some u)
    (new : ObjOk P w (upd H x o') h' x o') : HOk P w (upd H x o') h' := fun b u q => by
  have nown : ∀ c y, H c = some (.own y) → c ≠ x := fun c y r z => by subst z; rw [r] at mu; exact mu
  have ntup : ∀ c xs, H c = some (.tup xs) → c ≠ x := fun c xs r z => by subst z; rw [r] at mu; exact mu
  by_cases hb : b = x
  · subst hb; rw [upd_same] at q; cases q; exact new
  · rw [upd_ne hb] at q
    by_cases hbe : b = e
    · have q' : H b = some (.own x) := by
        rcases he with z | z
        · exact absurd (hbe.trans z) hb
        · rw [hbe]; exact z
      rw [q] at q'; cases q'
      obtain ⟨v, hv⟩ := heo
      exact ⟨v, by rw [hbe]; exact hv⟩
    · refine (ok b u q).stay (fun c v hc r => k c v ?_ r) (fun c r => by rw [upd_ne (nown c b r)]; exact r) fun c xs r => by rw [upd_ne (ntup c xs r)]; exact r
      rcases hc with rfl | hc
      · exact hbe
      · rintro rfl
        rcases he with z | z
        · exact nown c b hc z
        · rw [hc] at z; cases z; exact hb rfl
end
structure Un (fs ex : List Addr) (H H' : Hp) (h h' : Heap) : Prop where
  keep : ∀ b o, h.get? b = some o → H b = none → b ∉ fs → b ∉ ex → h'.get? b = some o
  slot : ∀ b o, h.get? b = some o → H b = none → b ∈ fs → b ∉ ex → ∃ sl, h'.get? b = some { o with slots := sl }
  free : ∀ b o, h.get? b = some o → H b = none → b ∉ ex → H' b = none
  there : ∀ b o, h.get? b = some o → b ∉ ex → ∃ o', h'.get? b = some o'
  tups : ∀ b xs, H b = some (.tup xs) → H' b = some (.tup xs)
  frzs : ∀ b o u, H b = some (.frz o u) → H' b = some (.frz o u)
  tbls : ∀ b ps, H b = some (.tbl ps) → ∃ more, H' b = some (.tbl (ps ++ more))
section
variable {fs fs' ex ex' : List Addr} {H H1 H2 : Hp} {h h1 h2 h' : Heap} {a x e : Addr} {o : HO}
theorem Un.any (u : Un fs ex H H1 h h1) {b : Addr} {ob : Obj} (q : h.get? b = some ob) (n : H b = none) (hx : b ∉ ex) : ∃ sl, h1.get? b = some { ob with slots := sl } := by
  by_cases hb : b ∈ fs
  · exact u.slot b ob q n hb hx
  · exact ⟨ob.slots, u.keep b ob q n hb hx⟩
theorem Un.trans (a : Un fs ex H H1 h h1) (b : Un fs ex H1 H2 h1 h2) : Un fs ex H H2 h h2 where
  keep := fun c ob q n hc hx => b.keep c ob (a.keep c ob q n hc hx) (a.free c ob q n hx) hc hx
  slot := fun c ob q n hc hx => by
    obtain ⟨sl, e1⟩ := a.slot c ob q n hc hx
    obtain ⟨sl', e2⟩ := b.slot c _ e1 (a.free c ob q n hx) hc hx
    exact ⟨sl', e2⟩
  free := fun c ob q n hx => by
    obtain ⟨o', e1⟩ := a.there c ob q hx
    exact b.free c o' e1 (a.free c ob q n hx) hx
  there := fun c ob q hx => by
    obtain ⟨o', e1⟩ := a.there c ob q hx
    exact b.there c o' e1 hx
  tups := fun c xs q => b.tups c xs (a.tups c xs q)
  frzs := fun c ob xs q => b.frzs c ob xs (a.frzs c ob xs q)
  tbls := fun c ps q => by
    obtain ⟨m1, e1⟩ := a.tbls c ps q
    obtain ⟨m2, e2⟩ := b.tbls c _ e1
    exact ⟨m1 ++ m2, by rw [e2, Array.append_assoc]⟩
theorem Un.kept (k : ∀ b u, h.get? b = some u → h'.get? b = some u) : Un fs ex H H h h' :=
  ⟨fun b ob q _ _ _ => k b ob q, fun b ob q _ _ _ => ⟨ob.slots, k b ob q⟩, fun _ _ _ n _ => n, fun b ob q _ => ⟨ob, k b ob q⟩, fun _ _ q => q, fun _ _ _ q => q, fun _ ps q => ⟨#[], by rw [q]; simp⟩⟩
theorem Un.refl : Un fs ex H H h h := Un.kept fun _ _ q => q
theorem Un.laid (k : ∀ b u, h.get? b = some u → h'.get? b = some u) (hp : h.objs.size ≤ a) (hn : H a = none) : Un fs ex H (upd H a o) h h' where
  keep := fun b u q _ _ _ => k b u q
  slot := fun b u q _ _ _ => ⟨u.slots, k b u q⟩
  free := fun b u q n _ => by rw [upd_ne (Nat.ne_of_lt (Nat.lt_of_lt_of_le (Heap.lt_size q) hp))]; exact n
  there := fun b u q _ => ⟨u, k b u q⟩
  tups := fun b xs q => by rw [upd_ne (ne_of_none q hn)]; exact q
  frzs := fun b u xs q => by rw [upd_ne (ne_of_none q hn)]; exact q
  tbls := fun b ps q => ⟨#[], by rw [upd_ne (ne_of_none q hn), q]; simp⟩
theorem Un.write (mu : Mut (H x)) (he : e = x ∨ H e = some (.own x)) (k : ∀ b u, b ≠ e → h.get? b = some u → h'.get? b = some u) (heo : ∃ u, h'.get? e = some u) : Un fs ex H (upd H x o) h h' := by
  have hx : ∀ b, H b = none → b ≠ x := fun b n z => by subst z; rw [n] at mu; exact mu
  have hb : ∀ b, H b = none → b ≠ e := fun b n z => by
    subst z
    rcases he with r | r
    · exact hx b n r
    · rw [n] at r; cases r
  have hm : ∀ b u, H b = some u → ¬ Mut (some u) → b ≠ x := fun b u q nm z => by subst z; rw [q] at mu; exact nm mu
  refine ⟨fun b u q n _ _ => k b u (hb b n) q, fun b u q n _ _ => ⟨u.slots, k b u (hb b n) q⟩, fun b u q n _ => by rw [upd_ne (hx b n)]; exact n, fun b u q _ => ?_,
    fun b xs q => by rw [upd_ne (hm b _ q fun z => z)]; exact q, fun b u xs q => by rw [upd_ne (hm b _ q fun z => z)]; exact q, fun b ps q => ⟨#[], by rw [upd_ne (hm b _ q fun z => z), q]; simp⟩⟩
  by_cases hbe : b = e
  · subst hbe; exact heo
  · exact ⟨u, k b u hbe q⟩
theorem Un.mono (u : Un fs ex H H1 h h1) (hs : ∀ b ∈ fs, b ∈ fs') (hx : ∀ b ∈ ex, b ∈ ex') : Un fs' ex' H H1 h h1 :=
  ⟨fun b ob q n hb he => u.keep b ob q n (fun z => hb (hs b z)) fun z => he (hx b z), fun _ _ q n _ he => u.any q n fun z => he (hx _ z), fun b ob q n he => u.free b ob q n fun z => he (hx b z), fun b ob q he => u.there b ob q fun z => he (hx b z), u.tups, u.frzs, u.tbls⟩
end
def trk (h : Heap) (H : Hp) : List Addr := (List.range h.objs.size).filter fun a => (H a).isSome
def hidT (h : Heap) (H : Hp) : Heap := PySem.W.hideAll h (trk h H)
theorem hidT_size (h : Heap) (H : Hp) : (hidT h H).objs.size = h.objs.size := PySem.W.hideAll_size _ _
theorem hidT_get {h : Heap} {H : Hp} {b : Addr} {o : Obj} (e : h.get? b = some o) (n : H b = none) : (hidT h H).get? b = some o :=
  PySem.W.hideAll_get _ e fun hm => by
    have q : (H b).isSome = true := (List.mem_filter.mp hm).2
    rw [n] at q; simp at q
theorem of_hidT {h : Heap} {H : Hp} {b : Addr} {o : Obj} (e : (hidT h H).get? b = some o) : h.get? b = some o ∧ H b = none := by
  have e' : h.get? b = some o := PySem.W.of_hideAll (trk h H) e
  refine ⟨e', ?_⟩
  cases q : H b with
  | none => rfl
  | some x =>
    have hm : b ∈ trk h H := List.mem_filter.mpr ⟨List.mem_range.mpr (Heap.lt_size e'), by simp [q]⟩
    have z : (hidT h H).get? b = none := PySem.W.hideAll_none (trk h H) hm
    rw [z] at e; cases e
def allNews (g h : Heap) (L : Addr) : List (Addr × Obj) := (List.range h.objs.size).filterMap fun a => if a = L ∨ (g.get? a).isSome = true then none else (h.get? a).map fun o => (a, o)
def rest (g h : Heap) (L d : Addr) : List (Addr × Obj) := (allNews g h L).filter fun p => decide (p.1 ≠ d)
end L2
namespace L2
open PySem PySem.Spec PyProof.Rows
structure Mod (K : PySem.W.Frag) (mg : Str → Option Value) (base : Heap) : Prop where
  kin : K.In base
  glob : base.Ns mainGlobals mg
  blt : ∃ mb, base.Ns builtinsNs mb ∧ ∀ x : Str, x ≠ "__name__" → mb x = bootBuiltins x
  nolimit : base.NoLimit
structure Cx where
  prog : Program
  w : World
  K : PySem.W.Frag
  mg : Str → Option Value
  base : Heap
  A : Around
  N : List Str
  s₀ : Shared
  H₀ : Hp
  env : Env
  outer : List Env
  stack : List Env
  ex : List Addr
  fn : Str → Bool
  calm : Bool
  pn : List (Addr × Obj)
  xe : Value → Shared → Prop
def frs (l : List Env) : List Addr := l.filterMap (·.frame)
abbrev Cx.fs (X : Cx) : List Addr := frs X.outer
def Vis (sc : Scope) (x : Str) : Prop := sc.names.lookup x = some .local ∨ sc.names.lookup x = some .cell ∨ sc.names.lookup x = some .free
def Loc (sc : Scope) (x : Str) : Prop := sc.names.lookup x = some .local ∨ sc.names.lookup x = some .cell
def Look (env : Env) (h : Heap) (m : Str → Option Value) (x : Str) (u : Value) : Prop :=
  (env.kindOf x = some .local ∧ m x = some u) ∨ ((env.kindOf x = some .cell ∨ env.kindOf x = some .free) ∧ ∃ c, env.cells.lookup x = some c ∧ h.IsCell c (some u))
structure Cx.Ok (X : Cx) : Prop where
  mod : Mod X.K X.mg X.base
  kind : X.env.scope.kind = .function
  glob : X.env.globals = mainGlobals
  blt : X.env.builtins = builtinsNs
  above : X.s₀.heap.objs.size ≤ X.env.locals
  inj : ∀ x y c, X.env.cells.lookup x = some c → X.env.cells.lookup y = some c → x = y
  has : ∀ x, (X.env.kindOf x = some .cell ∨ X.env.kindOf x = some .free) → ∃ c, X.env.cells.lookup x = some c
  cab : ∀ x c, X.fn x = true → X.env.cells.lookup x = some c → X.s₀.heap.objs.size ≤ c
  hd : X.calm = true → X.A.handled = none
  frames : X.A.frames = some X.stack
  stk : X.stack = X.outer ∨ (X.stack = X.env :: X.outer ∧ X.env.frame = some X.env.locals)
  exf : ∀ b ∈ X.ex, b ≠ X.env.locals ∧ ∀ x c, X.env.cells.lookup x = some c → c ≠ b
  bs : ∀ b o, X.base.get? b = some o → X.s₀.heap.get? b = some o ∧ X.H₀ b = none
  bsz : X.base.objs.size ≤ X.s₀.heap.objs.size
  noex : ∀ b o, X.base.get? b = some o → b ∉ X.ex
  exfs : ∀ b ∈ X.ex, b ∉ X.fs
  funs : X.s₀.heap.FunFrames X.base X.outer
  frf : ∀ b ∈ X.fs, X.H₀ b = none
structure Inv (X : Cx) (pins : List (Addr × Obj)) (σ : List (Option V)) (H : Hp) (s : Shared) : Prop where
  ok : X.Ok
  os : s.os = X.s₀.os
  bare : AllBare s.gens
  base : Un X.fs X.ex X.H₀ H X.s₀.heap s.heap
  loc : ∃ m, s.heap.Ns X.env.locals m ∧ ∀ (i : Nat) (x : Str) (v : V), X.N[i]? = some x → σ[i]? = some (some v) → Vis X.env.scope x → ∃ u, RelV v u ∧ Look X.env s.heap m x u
  cell : ∀ x c, X.env.cells.lookup x = some c → ∃ v, s.heap.IsCell c v
  free : H X.env.locals = none
  freeC : ∀ x c, X.env.cells.lookup x = some c → H c = none
  pin : ∀ p ∈ X.pn ++ pins, s.heap.get? p.1 = some p.2 ∧ H p.1 = none ∧ p.1 ≠ X.env.locals ∧ p.1 ∉ X.fs ∧ ∀ v, p.2.data ≠ .cell v
  hok : HOk X.prog X.w H s.heap
  len : σ.length = X.N.length
section
variable {X : Cx} {pins : List (Addr × Obj)} {σ : List (Option V)} {H H' : Hp} {s : Shared} {h' : Heap}
theorem Cx.Ok.nofr (ok : X.Ok) {b : Addr} {o : Obj} (e : X.base.get? b = some o) : b ∉ X.fs := fun hb => by
  have := (ok.funs.mem hb).1
  rw [e] at this; cases this
theorem Inv.bs (I : Inv X pins σ H s) : ∀ b o, X.base.get? b = some o → s.heap.get? b = some o ∧ H b = none := fun b o e =>
  ⟨I.base.keep b o (I.ok.bs b o e).1 (I.ok.bs b o e).2 (I.ok.nofr e) (I.ok.noex b o e), I.base.free b o (I.ok.bs b o e).1 (I.ok.bs b o e).2 (I.ok.noex b o e)⟩
theorem Inv.bk (I : Inv X pins σ H s) : ∀ b o, X.base.get? b = some o → s.heap.get? b = some o := fun b o e => (I.bs b o e).1
theorem Inv.mod (I : Inv X pins σ H s) : Mod X.K X.mg X.base := I.ok.mod
theorem Inv.kIn (I : Inv X pins σ H s) : X.K.In s.heap := I.ok.mod.kin.keeps I.bk
theorem Inv.nolimit (I : Inv X pins σ H s) : s.heap.NoLimit := I.ok.mod.nolimit.keeps I.bk
theorem Inv.fr (I : Inv X pins σ H s) : ∃ m, Fr X.base X.env.locals s.heap m :=
  let ⟨m, hn, _⟩ := I.loc
  ⟨m, hn, I.bk, Nat.le_trans I.ok.bsz I.ok.above⟩
theorem Inv.lt (I : Inv X pins σ H s) : X.env.locals < s.heap.objs.size := let ⟨_, hn, _⟩ := I.loc; hn.lt
theorem Inv.sz (I : Inv X pins σ H s) : X.s₀.heap.objs.size ≤ s.heap.objs.size := Nat.le_trans I.ok.above (Nat.le_of_lt I.lt)
theorem Inv.nofs (I : Inv X pins σ H s) {a : Addr} (h : s.heap.objs.size ≤ a) : a ∉ X.fs := fun hb => by
  obtain ⟨_, o, ho, _⟩ := I.ok.funs.mem hb
  exact absurd (Nat.lt_of_lt_of_le (Heap.lt_size ho) (Nat.le_trans I.sz h)) (Nat.lt_irrefl _)
theorem Inv.cne (I : Inv X pins σ H s) : ∀ x c, X.env.cells.lookup x = some c → c ≠ X.env.locals := fun x c e z => by
  obtain ⟨v, o, ho, hd⟩ := I.cell x c e
  obtain ⟨m, ⟨o', es, ep, ho', hd', _⟩, _⟩ := I.loc
  rw [z, ho'] at ho; cases ho; rw [hd'] at hd; cases hd
theorem Inv.funs (I : Inv X pins σ H s) : s.heap.FunFrames X.base X.outer := by
  have all : ∀ (l : List Env), (∀ b ∈ frs l, b ∈ X.fs) → X.s₀.heap.FunFrames X.base l → s.heap.FunFrames X.base l := by
    intro l
    induction l with
    | nil => intro _ _; trivial
    | cons env r ih =>
      intro hs hl
      obtain ⟨hk, ⟨L, o, hf, hn, ho, hd⟩, hr⟩ := hl
      have hL : L ∈ X.fs := hs L (by unfold frs; rw [List.filterMap_cons, hf]; exact List.mem_cons_self)
      obtain ⟨sl, e⟩ := I.base.slot L o ho (I.ok.frf L hL) hL fun z => I.ok.exfs L z hL
      exact ⟨hk, ⟨L, _, hf, hn, e, hd⟩, ih (fun b hb => hs b (by unfold frs; rw [List.filterMap_cons, hf]; exact List.mem_cons_of_mem _ hb)) hr⟩
  exact all X.outer (fun _ hb => hb) I.ok.funs
theorem Inv.stack (I : Inv X pins σ H s) : s.heap.FunFrames X.base X.stack := by
  rcases I.ok.stk with e | ⟨e, hf⟩
  · rw [e]; exact I.funs
  · rw [e]
    obtain ⟨m, hn, _⟩ := I.loc
    refine .cons (by rw [I.ok.kind]; decide) hf hn ?_ I.funs
    exact Heap.get?_none_of_le (Nat.le_trans I.ok.bsz I.ok.above)
theorem Inv.stkSub (I : Inv X pins σ H s) : ∀ b ∈ frs X.stack, b ∈ X.env.locals :: X.fs := fun b hb => by
  rcases I.ok.stk with e | ⟨e, hf⟩
  · rw [e] at hb; exact List.mem_cons_of_mem _ hb
  · rw [e] at hb
    unfold frs at hb
    rw [List.filterMap_cons, hf] at hb
    exact hb
theorem Inv.stkFree (I : Inv X pins σ H s) : ∀ b ∈ frs X.stack, H b = none := fun b hb => by
  rcases List.mem_cons.mp (I.stkSub b hb) with e | hb
  · rw [e]; exact I.free
  · obtain ⟨_, o, ho, _⟩ := I.ok.funs.mem hb
    exact I.base.free b o ho (I.ok.frf b hb) fun z => I.ok.exfs b z hb
theorem Inv.step {g' : Array GenState} {t' : Nat} {d' : Drawn} {ch : List Addr} (I : Inv X pins σ H s)
    (hch : ∀ b ∈ ch, (b ∈ X.ex ∨ X.s₀.heap.objs.size ≤ b) ∧ b ≠ X.env.locals ∧ (∀ x c, X.env.cells.lookup x = some c → c ≠ b) ∧ ∀ p ∈ X.pn ++ pins, p.1 ≠ b)
    (keep : ∀ b o, b ≠ X.env.locals → b ∉ X.fs → b ∉ ch → s.heap.get? b = some o → H b = none → h'.get? b = some o)
    (slot : ∀ b o, b ≠ X.env.locals → b ∈ X.fs → b ∉ ch → s.heap.get? b = some o → H b = none → ∃ sl, h'.get? b = some { o with slots := sl }) (free : ∀ b o, b ∉ ch → s.heap.get? b = some o → H b = none → H' b = none)
    (there : ∀ b o, b ∉ ch → s.heap.get? b = some o → ∃ o', h'.get? b = some o')
    (tups : ∀ b xs, H b = some (.tup xs) → H' b = some (.tup xs)) (frzs : ∀ b o u, H b = some (.frz o u) → H' b = some (.frz o u)) (tbls : ∀ b ps, H b = some (.tbl ps) → ∃ more, H' b = some (.tbl (ps ++ more)))
    (ns : ∀ m, s.heap.Ns X.env.locals m → h'.Ns X.env.locals m) (hok : HOk X.prog X.w H' h') (hg : AllBare g') :
    Inv X pins σ H' { s with heap := h', gens := g', drawn := d', toks := t' } := by
  have neL : ∀ b o, X.s₀.heap.get? b = some o → b ≠ X.env.locals := fun b o e => Nat.ne_of_lt (Nat.lt_of_lt_of_le (Heap.lt_size e) I.ok.above)
  have neC : ∀ b o, X.s₀.heap.get? b = some o → b ∉ X.ex → b ∉ ch := fun b o e hx hb => by
    rcases (hch b hb).1 with z | z
    · exact hx z
    · exact absurd (Nat.lt_of_lt_of_le (Heap.lt_size e) z) (Nat.lt_irrefl _)
  have cellK : ∀ x c, X.env.cells.lookup x = some c → ∀ v, s.heap.IsCell c v → h'.IsCell c v := fun x c e v ⟨o, ho, hd⟩ => by
    have nch : c ∉ ch := fun z => (hch c z).2.2.1 x c e rfl
    by_cases hc : c ∈ X.fs
    · obtain ⟨sl, q⟩ := slot c o (I.cne x c e) hc nch ho (I.freeC x c e)
      exact ⟨_, q, hd⟩
    · exact ⟨o, keep c o (I.cne x c e) hc nch ho (I.freeC x c e), hd⟩
  refine ⟨I.ok, I.os, hg, ⟨fun b o e n hb hx => ?_, fun b o e n hb hx => ?_, fun b o e n hx => ?_, fun b o e hx => ?_, fun b xs e => tups b xs (I.base.tups b xs e), fun b o xs e => frzs b o xs (I.base.frzs b o xs e), fun b ps e => ?_⟩, ?_, fun x c e => ?_, ?_, fun x c e => ?_, fun p hp => ?_, hok, I.len⟩
  · exact keep b o (neL b o e) hb (neC b o e hx) (I.base.keep b o e n hb hx) (I.base.free b o e n hx)
  · obtain ⟨sl, e1⟩ := I.base.slot b o e n hb hx
    obtain ⟨sl', e2⟩ := slot b _ (neL b o e) hb (neC b o e hx) e1 (I.base.free b o e n hx)
    exact ⟨sl', e2⟩
  · obtain ⟨o', e1⟩ := I.base.there b o e hx
    exact free b o' (neC b o e hx) e1 (I.base.free b o e n hx)
  · obtain ⟨o', e1⟩ := I.base.there b o e hx
    exact there b o' (neC b o e hx) e1
  · obtain ⟨m1, e1⟩ := I.base.tbls b ps e
    obtain ⟨m2, e2⟩ := tbls b _ e1
    exact ⟨m1 ++ m2, by rw [e2, Array.append_assoc]⟩
  · obtain ⟨m, hn, hl⟩ := I.loc
    refine ⟨m, ns m hn, fun i x v e1 e2 e3 => ?_⟩
    obtain ⟨u, r, l⟩ := hl i x v e1 e2 e3
    refine ⟨u, r, ?_⟩
    rcases l with l | ⟨k, c, e, z⟩
    · exact .inl l
    · exact .inr ⟨k, c, e, cellK x c e _ z⟩
  · obtain ⟨v, z⟩ := I.cell x c e
    exact ⟨v, cellK x c e v z⟩
  · obtain ⟨m, ⟨o, _, _, ho, _⟩, _⟩ := I.loc
    exact free _ o (fun z => (hch _ z).2.1 rfl) ho I.free
  · obtain ⟨v, o, ho, hd⟩ := I.cell x c e
    exact free c o (fun z => (hch c z).2.2.1 x c e rfl) ho (I.freeC x c e)
  · obtain ⟨e, n, ne, nf, d⟩ := I.pin p hp
    have nch : p.1 ∉ ch := fun z => (hch p.1 z).2.2.2 p hp rfl
    exact ⟨keep p.1 p.2 ne nf nch e n, free p.1 p.2 nch e n, ne, nf, d⟩
theorem Inv.un {t' : Nat} (I : Inv X pins σ H s) (u : Un X.fs [] H H' s.heap h') (hok : HOk X.prog X.w H' h') : Inv X pins σ H' { s with heap := h', toks := t' } := by
  obtain ⟨m, ⟨o, es, ep, ho, r⟩, _⟩ := id I.loc
  obtain ⟨sl, hL⟩ := u.any ho I.free (by simp)
  exact I.step (g' := s.gens) (d' := s.drawn) (ch := []) (fun _ z => nomatch z) (fun b o _ hb _ e n => u.keep b o e n hb (by simp)) (fun b o _ hb _ e n => u.slot b o e n hb (by simp)) (fun b o _ e n => u.free b o e n (by simp)) (fun b o _ e => u.there b o e (by simp)) u.tups u.frzs u.tbls (fun m' hm => by
    obtain ⟨o', es', ep', ho', r'⟩ := hm
    rw [ho] at ho'; cases ho'
    exact ⟨_, es', ep', hL, r'⟩) hok I.bare
theorem Inv.call {g' : Array GenState} {t' : Nat} {d' : Drawn} {ch : List Addr} (I : Inv X pins σ H s) (u : Un (frs X.stack) ch H H' s.heap h') (hok : HOk X.prog X.w H' h') (hg : AllBare g')
    (hch : ∀ b ∈ ch, (b ∈ X.ex ∨ X.s₀.heap.objs.size ≤ b) ∧ b ≠ X.env.locals ∧ (∀ x c, X.env.cells.lookup x = some c → c ≠ b) ∧ ∀ p ∈ X.pn ++ pins, p.1 ≠ b) :
    Inv X pins σ H' { s with heap := h', gens := g', drawn := d', toks := t' } := by
  obtain ⟨m, ⟨o, es, ep, ho, r⟩, _⟩ := id I.loc
  obtain ⟨sl, hL⟩ := u.any ho I.free fun z => (hch _ z).2.1 rfl
  exact I.step (ch := ch) hch (fun b o hL hb hc e n => u.keep b o e n (fun z => (List.mem_cons.mp (I.stkSub b z)).elim hL hb) hc) (fun b o _ _ hc e n => u.any e n hc) (fun b o hc e n => u.free b o e n hc) (fun b o hc e => u.there b o e hc) u.tups u.frzs u.tbls (fun m' hm => by
    obtain ⟨o', es', ep', ho', r'⟩ := hm
    rw [ho] at ho'; cases ho'
    exact ⟨_, es', ep', hL, r'⟩) hok hg
theorem Inv.turned {t' : Nat} {it : Addr} (I : Inv X pins σ H s) (k : ∀ b o, b ≠ it → s.heap.get? b = some o → h'.get? b = some o) (hn : H it = none) (hL : it ≠ X.env.locals)
    (h1 : it ∈ X.ex ∨ X.s₀.heap.objs.size ≤ it) (h2 : ∀ x c, X.env.cells.lookup x = some c → c ≠ it) (h3 : ∀ p ∈ X.pn ++ pins, p.1 ≠ it) : Inv X pins σ H { s with heap := h', toks := t' } := by
  have nit : ∀ b u, H b = some u → b ≠ it := fun b u e z => by rw [z, hn] at e; cases e
  refine I.step (g' := s.gens) (d' := s.drawn) (ch := [it]) (fun b hb => ?_) (fun b o _ _ hc e _ => k b o (fun z => hc (by simp [z])) e) (fun b o _ _ hc e _ => ⟨o.slots, k b o (fun z => hc (by simp [z])) e⟩) (fun _ _ _ _ n => n)
    (fun b o hc e => ⟨o, k b o (fun z => hc (by simp [z])) e⟩) (fun _ _ e => e) (fun _ _ _ e => e) (fun b ps e => ⟨#[], by rw [e]; simp⟩) (fun m hm => ?_) (fun b u e => ?_) I.bare
  · have e : b = it := by simpa using hb
    subst e
    exact ⟨h1, hL, h2, h3⟩
  · obtain ⟨o, es, ep, ho, r⟩ := hm
    exact ⟨o, es, ep, k _ o (Ne.symm hL) ho, r⟩
  · refine (I.hok b u e).stay (fun c v hc q => k c v ?_ q) (fun _ q => q) fun _ _ q => q
    rcases hc with z | z
    · rw [z]; exact nit b u e
    · exact nit c _ z
theorem Inv.tok (I : Inv X pins σ H s) (t : Nat) : Inv X pins σ H { s with toks := t } := I.un (h' := s.heap) (t' := t) Un.refl I.hok
theorem Inv.kept {t' : Nat} (I : Inv X pins σ H s) (k : ∀ b u, s.heap.get? b = some u → h'.get? b = some u) : Inv X pins σ H { s with heap := h', toks := t' } := I.un (Un.kept k) (I.hok.kept k)
theorem Inv.laid {a : Addr} {o : HO} {t' : Nat} (I : Inv X pins σ H s) (k : ∀ b u, s.heap.get? b = some u → h'.get? b = some u) (hp : s.heap.objs.size ≤ a) (new : ObjOk X.prog X.w (upd H a o) h' a o) :
    Inv X pins σ (upd H a o) { s with heap := h', toks := t' } := I.un (Un.laid k hp (I.hok.fresh hp)) (I.hok.laid k hp new)
theorem Inv.write {x e : Addr} {o : HO} {t' : Nat} (I : Inv X pins σ H s) (mu : Mut (H x)) (he : e = x ∨ H e = some (.own x)) (k : ∀ b u, b ≠ e → s.heap.get? b = some u → h'.get? b = some u) (heo : ∃ u, h'.get? e = some u)
    (new : ObjOk X.prog X.w (upd H x o) h' x o) : Inv X pins σ (upd H x o) { s with heap := h', toks := t' } := I.un (Un.write mu he k heo) (I.hok.write mu he k heo new)
theorem Inv.pins_of {pins' : List (Addr × Obj)} (I : Inv X pins σ H s) (h : ∀ p ∈ pins', s.heap.get? p.1 = some p.2 ∧ H p.1 = none ∧ p.1 ≠ X.env.locals ∧ p.1 ∉ X.fs ∧ ∀ v, p.2.data ≠ .cell v) : Inv X pins' σ H s :=
  ⟨I.ok, I.os, I.bare, I.base, I.loc, I.cell, I.free, I.freeC, fun p hp => (List.mem_append.mp hp).elim (fun z => I.pin p (List.mem_append_left _ z)) (h p), I.hok, I.len⟩
theorem nodup_ix {N : List Str} (hN : N.Nodup) {i j : Nat} {x : Str} (a : N[i]? = some x) (b : N[j]? = some x) : i = j := by
  obtain ⟨h1, e1⟩ := List.getElem?_eq_some_iff.mp a
  obtain ⟨h2, e2⟩ := List.getElem?_eq_some_iff.mp b
  exact (List.getElem_inj hN).mp (e1.trans e2.symm)
theorem store_ok2 {M : Model} {A : Around} {E : Value → Shared → Prop} {i : Nat} {x : Str} {v : V} {u : Value} {Q : Unit → Shared → Prop} (I : Inv X pins σ H s) (hN : X.N.Nodup) (hi : X.N[i]? = some x) (hx : Loc X.env.scope x) (r : RelV v u)
    (h : ∀ s', Inv X pins (σ.set i (some v)) H s' → (∃ a, Heap.SameBut a s.heap s'.heap ∧ (a = X.env.locals ∨ X.env.cells.lookup x = some a)) → Q () s') (hf : X.fn x = true ∨ X.env.scope.names.lookup x = some .local := by first | exact .inl rfl | exact .inr rfl | assumption) : wpAny M A (storeName X.env x u) Q E s := by
  obtain ⟨m, hn, hl⟩ := id I.loc
  have hcls : (X.env.scope.kind == .class || (X.env.scope.kind == .module && X.env.locals != X.env.globals)) = false := by rw [I.ok.kind]; rfl
  have hiσ : i < σ.length := by rw [I.len]; exact (List.getElem?_eq_some_iff.mp hi).1
  have cne := I.cne
  have tracked : ∀ {a : Addr} {h' : Heap}, (∃ o, s.heap.get? a = some o ∧ H a = none) → Heap.SameBut a s.heap h' → HOk X.prog X.w H h' := fun {a h'} ha hs b ob e => by
    obtain ⟨_, _, hfree⟩ := ha
    refine (I.hok b ob e).stay (fun c w' hc q => (hs.2 c ?_).trans q) (fun _ q => q) fun _ _ q => q
    rintro rfl
    rcases hc with rfl | hc
    · rw [hfree] at e; cases e
    · rw [hfree] at hc; cases hc
  rcases hx with hk | hk
  · refine wpAny_storeName_local hk hn (fun h' hn' hs => ?_) hcls
    obtain ⟨oL, _, _, hoL, _⟩ := id hn
    refine h _ ⟨I.ok, I.os, I.bare, ⟨fun b o e n hb hx => ?_, fun b o e n hb hx => ?_, I.base.free, fun b o e hx => ?_, I.base.tups, I.base.frzs, I.base.tbls⟩, ⟨_, hn', fun j y v' e1 e2 e3 => ?_⟩, fun y c e => ?_, I.free, I.freeC, fun p hp => ?_, tracked ⟨oL, hoL, I.free⟩ hs, by simpa using I.len⟩ ⟨_, hs, .inl rfl⟩
    · exact (hs.2 b (Nat.ne_of_lt (Nat.lt_of_lt_of_le (Heap.lt_size e) I.ok.above))).trans (I.base.keep b o e n hb hx)
    · obtain ⟨sl, e1⟩ := I.base.slot b o e n hb hx
      exact ⟨sl, (hs.2 b (Nat.ne_of_lt (Nat.lt_of_lt_of_le (Heap.lt_size e) I.ok.above))).trans e1⟩
    · obtain ⟨o', e1⟩ := I.base.there b o e hx
      exact ⟨o', (hs.2 b (Nat.ne_of_lt (Nat.lt_of_lt_of_le (Heap.lt_size e) I.ok.above))).trans e1⟩
    · by_cases hj : j = i
      · subst hj
        rw [hi] at e1; cases e1
        rw [List.getElem?_set_self hiσ] at e2
        cases e2
        exact ⟨u, r, .inl ⟨hk, by simp⟩⟩
      · rw [List.getElem?_set_ne (Ne.symm hj)] at e2
        obtain ⟨u', r', q⟩ := hl j y v' e1 e2 e3
        refine ⟨u', r', ?_⟩
        rcases q with ⟨k, e⟩ | ⟨k, c, e, z⟩
        · refine .inl ⟨k, ?_⟩
          have : y ≠ x := fun e => hj (nodup_ix hN e1 (e ▸ hi))
          simp [this, e]
        · exact .inr ⟨k, c, e, z.sameBut hs (cne y c e)⟩
    · obtain ⟨w', z⟩ := I.cell y c e
      exact ⟨w', z.sameBut hs (cne y c e)⟩
    · obtain ⟨e, n, ne, nf, d⟩ := I.pin p hp
      exact ⟨(hs.2 p.1 ne).trans e, n, ne, nf, d⟩
  · have hfn : X.fn x = true := by
      rcases hf with z | z
      · exact z
      · rw [z] at hk; cases hk
    obtain ⟨c, hc⟩ := I.ok.has x (.inl hk)
    obtain ⟨w', z⟩ := I.cell x c hc
    refine wpAny_storeName_cell I.ok.kind hk hc z (fun h' hc' hs => ?_)
    obtain ⟨oc, hoc, hocd⟩ := id z
    refine h { s with heap := h' } ⟨I.ok, I.os, I.bare, ⟨fun b o e n hb hx => ?_, fun b o e n hb hx => ?_, I.base.free, fun b o e hx => ?_, I.base.tups, I.base.frzs, I.base.tbls⟩, ⟨m, hn.sameBut hs (Ne.symm (cne x c hc)), fun j y v' e1 e2 e3 => ?_⟩, fun y c' e => ?_, I.free, I.freeC, fun p hp => ?_, tracked ⟨oc, hoc, I.freeC x c hc⟩ hs, by simpa using I.len⟩ ⟨c, hs, .inr hc⟩
    · exact (hs.2 b (Nat.ne_of_lt (Nat.lt_of_lt_of_le (Heap.lt_size e) (I.ok.cab x c hfn hc)))).trans (I.base.keep b o e n hb hx)
    · obtain ⟨sl, e1⟩ := I.base.slot b o e n hb hx
      exact ⟨sl, (hs.2 b (Nat.ne_of_lt (Nat.lt_of_lt_of_le (Heap.lt_size e) (I.ok.cab x c hfn hc)))).trans e1⟩
    · obtain ⟨o', e1⟩ := I.base.there b o e hx
      exact ⟨o', (hs.2 b (Nat.ne_of_lt (Nat.lt_of_lt_of_le (Heap.lt_size e) (I.ok.cab x c hfn hc)))).trans e1⟩
    · by_cases hj : j = i
      · subst hj
        rw [hi] at e1; cases e1
        rw [List.getElem?_set_self hiσ] at e2
        cases e2
        exact ⟨u, r, .inr ⟨.inl hk, c, hc, hc'⟩⟩
      · rw [List.getElem?_set_ne (Ne.symm hj)] at e2
        obtain ⟨u', r', q⟩ := hl j y v' e1 e2 e3
        refine ⟨u', r', ?_⟩
        rcases q with q | ⟨k, c', e, z'⟩
        · exact .inl q
        · refine .inr ⟨k, c', e, z'.sameBut hs ?_⟩
          rintro rfl
          exact hj (nodup_ix hN e1 (I.ok.inj _ _ _ e hc ▸ hi))
    · by_cases hcc : c' = c
      · subst hcc; exact ⟨_, hc'⟩
      · obtain ⟨w2, z2⟩ := I.cell y c' e
        exact ⟨w2, z2.sameBut hs hcc⟩
    · obtain ⟨e, n, ne, nf, d⟩ := I.pin p hp
      refine ⟨(hs.2 p.1 ?_).trans e, n, ne, nf, d⟩
      intro q
      rw [q, hoc] at e
      have q' : oc = p.2 := Option.some.inj e
      exact d w' (by rw [← q']; exact hocd)
theorem store_ok {M : Model} {A : Around} {E : Value → Shared → Prop} {i : Nat} {x : Str} {v : V} {u : Value} {Q : Unit → Shared → Prop} (I : Inv X pins σ H s) (hN : X.N.Nodup) (hi : X.N[i]? = some x) (hx : Loc X.env.scope x) (r : RelV v u)
    (h : ∀ s', Inv X pins (σ.set i (some v)) H s' → Q () s') (hf : X.fn x = true ∨ X.env.scope.names.lookup x = some .local := by first | exact .inl rfl | exact .inr rfl | assumption) : wpAny M A (storeName X.env x u) Q E s :=
  store_ok2 I hN hi hx r (fun s' I' _ => h s' I') hf
theorem Inv.call' {s' : Shared} {ch : List Addr} (I : Inv X pins σ H s) (ho : s'.os = s.os) (u : Un (frs X.stack) ch H H' s.heap s'.heap) (hok : HOk X.prog X.w H' s'.heap) (hg : AllBare s'.gens)
    (hch : ∀ b ∈ ch, (b ∈ X.ex ∨ X.s₀.heap.objs.size ≤ b) ∧ b ≠ X.env.locals ∧ (∀ x c, X.env.cells.lookup x = some c → c ≠ b) ∧ ∀ p ∈ X.pn ++ pins, p.1 ≠ b) : Inv X pins σ H' s' := by
  obtain ⟨h', g', d', t', o'⟩ := s'
  have e : o' = s.os := ho
  subst e
  exact I.call (g' := g') (t' := t') (d' := d') u hok hg hch
end
abbrev XK := Value → Option Addr → Hp → Prop
abbrev St := List (Option V)
abbrev VK := V → Hp → Prop
abbrev TE := St → Hp → VK → Prop
abbrev TT := St → Hp → (Bool → Hp → Prop) → Prop
abbrev TA := St → Hp → (List V → Hp → Prop) → Prop
structure Ends where
  nx : St → Hp → Prop
  rt : VK
  bk : St → Hp → Prop := fun _ _ => False
  ct : St → Hp → Prop := fun _ _ => False
abbrev TS := Ends → St → Hp → Prop
def EP (X : Cx) (pins : List (Addr × Obj)) (σ : St) (Q : VK) (u : Value) (s' : Shared) : Prop := ∃ v H', Inv X pins σ H' s' ∧ RelV v u ∧ Q v H'
def TP (X : Cx) (pins : List (Addr × Obj)) (σ : St) (Q : Bool → Hp → Prop) (b : Bool) (s' : Shared) : Prop := ∃ H', Inv X pins σ H' s' ∧ Q b H'
def AP (X : Cx) (pins : List (Addr × Obj)) (σ : St) (Q : List V → Hp → Prop) (us : List Value) (s' : Shared) : Prop := ∃ vs H', Inv X pins σ H' s' ∧ Vals vs us ∧ Q vs H'
def SP (X : Cx) (pins : List (Addr × Obj)) (D : Ends) (f : Flow) (s' : Shared) : Prop :=
  match f with
  | .next => ∃ σ' H', Inv X pins σ' H' s' ∧ D.nx σ' H'
  | .brk => ∃ σ' H', Inv X pins σ' H' s' ∧ D.bk σ' H'
  | .cont => ∃ σ' H', Inv X pins σ' H' s' ∧ D.ct σ' H'
  | .ret u => ∃ v σ' H', Inv X pins σ' H' s' ∧ RelV v u ∧ D.rt v H'
def PE (X : Cx) (e : Expr) (t : TE) : Prop :=
  ∀ (pins : List (Addr × Obj)) (s : Shared) (σ : St) (H : Hp) (Q : VK), Inv X pins σ H s → t σ H Q → wpAny (model X.prog X.w) X.A (eval e X.env) (EP X pins σ Q) X.xe s
def PT (X : Cx) (e : Expr) (t : TT) : Prop :=
  ∀ (pins : List (Addr × Obj)) (s : Shared) (σ : St) (H : Hp) (Q : Bool → Hp → Prop), Inv X pins σ H s → t σ H Q → wpAny (model X.prog X.w) X.A (isTrue e X.env (eval e X.env)) (TP X pins σ Q) X.xe s
def PW (X : Cx) (e : Expr) (t : TT) : Prop :=
  ∀ (whole : Sem Value) (pins : List (Addr × Obj)) (s : Shared) (σ : St) (H : Hp) (Q : Bool → Hp → Prop), Inv X pins σ H s → t σ H Q → wpAny (model X.prog X.w) X.A (isTrue e X.env whole) (TP X pins σ Q) X.xe s
theorem PW.pt {X : Cx} {e : Expr} {t : TT} (h : PW X e t) : PT X e t := h _
def PA (X : Cx) (es : List Expr) (t : TA) : Prop :=
  ∀ (pos : Pos) (pins : List (Addr × Obj)) (s : Shared) (σ : St) (H : Hp) (Q : List V → Hp → Prop), Inv X pins σ H s → t σ H Q → wpAny (model X.prog X.w) X.A (spliced (backTo pos (starEach es X.env))) (AP X pins σ Q) X.xe s
def PS (X : Cx) (st : Stmt) (t : TS) : Prop :=
  ∀ (pins : List (Addr × Obj)) (s : Shared) (σ : St) (H : Hp) (D : Ends), Inv X pins σ H s → t D σ H → wpAny (model X.prog X.w) X.A (exec st X.env) (SP X pins D) X.xe s
def PSs (X : Cx) (st : List Stmt) (t : TS) : Prop :=
  ∀ (pins : List (Addr × Obj)) (s : Shared) (σ : St) (H : Hp) (D : Ends), Inv X pins σ H s → t D σ H → wpAny (model X.prog X.w) X.A (execs st X.env) (SP X pins D) X.xe s
theorem thn {α : Type} {t : Sem α} {Q Q' : α → Shared → Prop} {M : Model} {A : Around} {E : Value → Shared → Prop} {s : Shared} (h : wpAny M A t Q E s) (hQ : ∀ a s, Q a s → Q' a s) : wpAny M A t Q' E s := wpAny_mono h hQ fun _ _ x => x
end L2
namespace L2
open PySem PySem.Spec PyProof.Rows
section
variable {X : Cx}
def tVar (i : Nat) : TE := fun σ H Q => ∃ v, σ[i]? = some (some v) ∧ Q v H
def tC (v : V) : TE := fun _ H Q => Q v H
theorem pe_var {i : Nat} {x : Str} {pos : Pos} (hN : X.N[i]? = some x) (hv : Vis X.env.scope x) (hd : (x == ("__debug__" : Str)) = false := by decide) (hcd : (x == ("__classdict__" : Str)) = false := by decide) : PE X (.Name x pos) (tVar i) := by
  intro pins s σ H Q I h
  obtain ⟨v, e, h⟩ := h
  obtain ⟨m, hn, hl⟩ := I.loc
  obtain ⟨u, r, l⟩ := hl i x v hN e hv
  have fin : EP X pins σ Q u s := ⟨v, H, I, r, h⟩
  rcases l with ⟨hk, hm⟩ | ⟨hk, c, hc, hcell⟩
  · exact wpAny_Name (wpAny_loadName_local I.ok.kind hk hn hm fin) hd
  · rcases hk with hk | hk
    · exact wpAny_Name (wpAny_loadName_cell I.ok.kind hk hc hcell fin) hd
    · exact wpAny_Name (wpAny_loadName_free I.ok.kind hk hc hcell fin hcd) hd
theorem pe_int {i j pos} : PE X (.Constant (.int i) j pos) (tC (.int i)) := fun _ _ _ H _ I h => wpAny_Constant_int ⟨.int i, H, I.tok _, ⟨_, rfl⟩, h⟩
theorem pe_bl {b j pos} : PE X (.Constant (.bool b) j pos) (tC (.bl b)) := fun _ _ _ H _ I h => Constant_bool ⟨.bl b, H, I, rfl, h⟩
theorem pe_non {j pos} : PE X (.Constant .none j pos) (tC .non) := fun _ _ _ H _ I h => Constant_none ⟨.non, H, I, rfl, h⟩
theorem pe_str {x j pos} : PE X (.Constant (.str x) j pos) (tC (.str x)) := fun _ _ _ H _ I h => Calls.Constant_str ⟨.str x, H, I.tok _, ⟨_, rfl⟩, h⟩
def Gl (X : Cx) (x : Str) : Prop := X.env.kindOf x = some .globalImplicit
theorem ld_glob {E : Value → Shared → Prop} {pins : List (Addr × Obj)} {s : Shared} {σ : St} {H : Hp} {x : Str} {u : Value} {pos : Pos} {Q : Value → Shared → Prop} (I : Inv X pins σ H s) (hg : Gl X x) (hm : X.mg x = some u) (h : Q u s)
    (hd : (x == ("__debug__" : Str)) = false := by decide) : wpAny (model X.prog X.w) X.A (eval (.Name x pos) X.env) Q E s :=
  Calls.Name_function_global I.ok.kind hg (Calls.loadGlobal_global (by rw [I.ok.glob]; exact I.mod.glob.keeps I.bk) hm h) hd
theorem ld_blt {E : Value → Shared → Prop} {pins : List (Addr × Obj)} {s : Shared} {σ : St} {H : Hp} {x : Str} {u : Value} {pos : Pos} {Q : Value → Shared → Prop} (I : Inv X pins σ H s) (hg : Gl X x) (hm : X.mg x = none) (hv : bootBuiltins x = some u) (h : Q u s)
    (hn : x ≠ "__name__" := by decide) (hd : (x == ("__debug__" : Str)) = false := by decide) : wpAny (model X.prog X.w) X.A (eval (.Name x pos) X.env) Q E s := by
  obtain ⟨mb, h1, h2⟩ := I.mod.blt
  exact Calls.Name_function_global I.ok.kind hg (Calls.loadGlobal_builtin (by rw [I.ok.glob]; exact I.mod.glob.keeps I.bk) hm (by rw [I.ok.blt]; exact h1.keeps I.bk) ((h2 x hn).trans hv) h) hd
theorem pe_glob {x : Str} {v : V} {u : Value} {pos : Pos} (hg : Gl X x) (hm : X.mg x = some u) (r : RelV v u) (hd : (x == ("__debug__" : Str)) = false := by decide) : PE X (.Name x pos) (tC v) :=
  fun _ _ _ H _ I h => ld_glob I hg hm ⟨v, H, I, r, h⟩ hd
theorem pe_bltn {x : Str} {v : V} {u : Value} {pos : Pos} (hg : Gl X x) (hm : X.mg x = none) (hv : bootBuiltins x = some u) (r : RelV v u) (hn : x ≠ "__name__" := by decide) (hd : (x == ("__debug__" : Str)) = false := by decide) : PE X (.Name x pos) (tC v) :=
  fun _ _ _ H _ I h => ld_blt I hg hm hv ⟨v, H, I, r, h⟩ hn hd
variable {a b : Expr} {ta tb : TE} {pos : Pos}
def PC (X : Cx) (op : CmpOp) (a b : Expr) (t : TE) : Prop :=
  ∀ (pins : List (Addr × Obj)) (s : Shared) (σ : St) (H : Hp) (Q : VK), Inv X pins σ H s → t σ H Q →
    wpAny (model X.prog X.w) X.A (eval a X.env) (fun v s₁ => wpAny (model X.prog X.w) X.A (eval b X.env) (fun u s₂ => wpAny (model X.prog X.w) X.A (compareOp op v u) (EP X pins σ Q) X.xe s₂) X.xe s₁) X.xe s
theorem nobehind (b : Expr) {op : CmpOp} (h : op ≠ .In) (h2 : op ≠ .NotIn) : behindInMarks op b = false := by
  have e1 : (op == CmpOp.In) = false := by cases op <;> first | rfl | exact absurd rfl h
  have e2 : (op == CmpOp.NotIn) = false := by cases op <;> first | rfl | exact absurd rfl h2
  cases b <;> simp [behindInMarks, e1, e2]
def tIsN (ta : TE) : TE := fun σ H Q => ta σ H fun x H1 => Q (.bl (decide (x = .non))) H1
def tNotN (ta : TE) : TE := fun σ H Q => ta σ H fun x H1 => Q (.bl (!decide (x = .non))) H1
theorem RelV.none_iff {x : V} {v : Value} (r : RelV x v) : (v == Value.none) = decide (x = .non) := by
  cases x with
  | non => cases r; rfl
  | bl _ => cases r; rfl
  | int _ => obtain ⟨t, rfl⟩ := r; rfl
  | str _ => obtain ⟨t, rfl⟩ := r; rfl
  | byt _ => obtain ⟨t, rfl⟩ := r; rfl
  | flt _ => obtain ⟨t, rfl⟩ := r; rfl
  | ref _ => cases r; rfl
  | ty _ => cases r; rfl
theorem pc_isN {j pos'} (ha : PE X a ta) : PC X .Is a (.Constant .none j pos') (tIsN ta) := by
  intro pins s σ H Q I h
  refine thn (ha pins s σ H _ I h) fun v s1 ⟨x, H1, I1, r1, q1⟩ => ?_
  exact Constant_none (is_none_gen ⟨.bl _, H1, I1, by rw [r1.none_iff]; rfl, q1⟩)
def tB (t : TE) : TT := fun σ H Q => t σ H fun x H1 => ∃ c, x = .bl c ∧ Q c H1
theorem pt_cmp {op : CmpOp} {t : TE} (h : PC X op a b t) (h1 : behindInMarks op b = false := by first | exact nobehind _ (by decide) (by decide) | rfl) : PT X (.Compare a [op] [b] pos) (tB t) := by
  intro pins s σ H Q I hw
  refine wpAny_isTrue_Compare1 (thn (h pins s σ H _ I hw) fun v s1 h1 => thn h1 fun u s2 h2 => thn h2 fun c s3 ⟨x, H1, I1, r1, q1⟩ => ?_) h1
  obtain ⟨d, rfl, q⟩ := q1
  cases r1
  exact wpAny_truthy_bool ⟨H1, I1, q⟩
theorem pt_val {e : Expr} {t : TE} (h : PE X e t) (he : ∀ whole, isTrue e X.env whole = (do let v ← whole; standAt e.pos; holding [v] (truthy v)) := by intro _; rfl) : PT X e (tB t) := by
  intro pins s σ H Q I hw
  refine isTrue_plain (thn (h pins s σ H _ I hw) fun v s1 ⟨x, H1, I1, r1, q1⟩ => ?_) (he _)
  obtain ⟨d, rfl, q⟩ := q1
  cases r1
  exact wpAny_truthy_bool ⟨H1, I1, q⟩
variable {tA tB' : TT} {rest : List Expr}
def tAnd (t u : TT) : TT := fun σ H Q => t σ H fun c H1 => if c = true then u σ H1 Q else Q false H1
def tOr (t u : TT) : TT := fun σ H Q => t σ H fun c H1 => if c = true then Q true H1 else u σ H1 Q
def tNot (t : TT) : TT := fun σ H Q => t σ H fun c H1 => Q (!c) H1
theorem pw_and1 (ha : PT X a tA) : PW X (.BoolOp .And [a] pos) tA := by
  intro wh pins s σ H Q I h
  refine isTrue_and (thn (ha pins s σ H Q I h) fun c s1 e => ?_)
  cases c with
  | true => exact isTrue_and_nil e
  | false => exact e
theorem pw_or1 (ha : PT X a tA) : PW X (.BoolOp .Or [a] pos) tA := by
  intro wh pins s σ H Q I h
  refine isTrue_or (thn (ha pins s σ H Q I h) fun c s1 e => ?_)
  cases c with
  | false => exact isTrue_or_nil e
  | true => exact e
theorem pw_and (ha : PT X a tA) (hb : PW X (.BoolOp .And (b :: rest) pos) tB') : PW X (.BoolOp .And (a :: b :: rest) pos) (tAnd tA tB') := by
  intro wh pins s σ H Q I h
  refine isTrue_and (thn (ha pins s σ H _ I h) fun c s1 ⟨H1, I1, q1⟩ => ?_)
  cases c with
  | true => exact hb wh pins s1 σ H1 Q I1 q1
  | false => exact ⟨H1, I1, q1⟩
theorem pw_or (ha : PT X a tA) (hb : PW X (.BoolOp .Or (b :: rest) pos) tB') : PW X (.BoolOp .Or (a :: b :: rest) pos) (tOr tA tB') := by
  intro wh pins s σ H Q I h
  refine isTrue_or (thn (ha pins s σ H _ I h) fun c s1 ⟨H1, I1, q1⟩ => ?_)
  cases c with
  | true => exact ⟨H1, I1, q1⟩
  | false => exact hb wh pins s1 σ H1 Q I1 q1
theorem pt_not (ha : PT X a tA) : PT X (.UnaryOp .Not a pos) (tNot tA) := by
  intro pins s σ H Q I h
  exact isTrue_not (ha pins s σ H (fun c H1 => Q (!c) H1) I h)
def tAndV (ta tb : TE) : TE := fun σ H Q => ta σ H fun x H1 => ∃ c, x = .bl c ∧ if c = true then tb σ H1 Q else Q (.bl false) H1
def tOrV (ta tb : TE) : TE := fun σ H Q => ta σ H fun x H1 => ∃ c, x = .bl c ∧ if c = true then Q (.bl true) H1 else tb σ H1 Q
def tNotV (ta : TE) : TE := fun σ H Q => ta σ H fun x H1 => ∃ c, x = .bl c ∧ Q (.bl (!c)) H1
theorem pe_one {op} {t : TE} (h : PE X a t) : PE X (.BoolOp op [a] pos) t := fun pins s σ H Q I hw => BoolOp_one (h pins s σ H Q I hw)
theorem pe_and (ha : PE X a ta) (hb : PE X (.BoolOp .And (b :: rest) pos) tb) : PE X (.BoolOp .And (a :: b :: rest) pos) (tAndV ta tb) := by
  intro pins s σ H Q I h
  refine BoolOp_and (thn (ha pins s σ H _ I h) fun v s1 ⟨x, H1, I1, r1, q1⟩ => ?_)
  obtain ⟨c, rfl, q1⟩ := q1
  cases r1
  refine wpAny_truthy_bool ?_
  cases c with
  | true => exact hb pins s1 σ H1 Q I1 q1
  | false => exact ⟨.bl false, H1, I1, rfl, q1⟩
theorem pe_not (ha : PE X a ta) : PE X (.UnaryOp .Not a pos) (tNotV ta) := by
  intro pins s σ H Q I h
  refine UnaryOp_ (thn (ha pins s σ H _ I h) fun v s1 ⟨x, H1, I1, r1, q1⟩ => ?_)
  obtain ⟨c, rfl, q1⟩ := q1
  cases r1
  exact not_of (wpAny_truthy_bool ⟨.bl (!c), H1, I1, rfl, q1⟩)
def tIf (t : TT) (ta tb : TE) : TE := fun σ H Q => t σ H fun c H1 => if c = true then ta σ H1 Q else tb σ H1 Q
theorem pe_ifExp {c : Expr} (hc : PT X c tA) (ha : PE X a ta) (hb : PE X b tb) : PE X (.IfExp c a b pos) (tIf tA ta tb) := by
  intro pins s σ H Q I h
  refine wpAny_IfExp (thn (hc pins s σ H _ I h) fun d s1 ⟨H1, I1, q1⟩ => ?_)
  cases d with
  | true => exact ha pins s1 σ H1 Q I1 q1
  | false => exact hb pins s1 σ H1 Q I1 q1
end
end L2
namespace L2
open PySem PySem.Spec PyProof.Rows
def SqL (K : PySem.W.Frag) (H : Hp) (a : Addr) (xs : List V) : Prop :=
  Rd H a (.lst xs) ∨
    ∃ (o : Obj) (its : Array Value) (n : Nat), K.lookup a = some o ∧ o.cls = .type "list" ∧ o.dict = none ∧ o.data = .seq its n ∧ its.size ≤ sizeLine ∧ Vals xs its.toList
def SqT (K : PySem.W.Frag) (H : Hp) (a : Addr) (xs : List V) : Prop :=
  Rd H a (.tup xs) ∨
    ∃ (o : Obj) (its : Array Value) (n : Nat), K.lookup a = some o ∧ o.cls = .type "tuple" ∧ o.data = .seq its n ∧ its.size ≤ sizeLine ∧ Vals xs its.toList
def absV : Value → Option V
  | .none => some .non
  | .bool b => some (.bl b)
  | .int i _ => some (.int i)
  | .str x _ => some (.str x)
  | .bytes b _ => some (.byt b)
  | .float b _ => some (.flt b)
  | .ref a => some (.ref a)
  | .type n => some (.ty n)
  | _ => none
theorem RelV.abs {x : V} {u : Value} (r : RelV x u) : absV u = some x := by
  cases x with
  | non => cases r; rfl
  | bl _ => cases r; rfl
  | int _ => obtain ⟨t, rfl⟩ := r; rfl
  | str _ => obtain ⟨t, rfl⟩ := r; rfl
  | byt _ => obtain ⟨t, rfl⟩ := r; rfl
  | flt _ => obtain ⟨t, rfl⟩ := r; rfl
  | ref _ => cases r; rfl
  | ty _ => cases r; rfl
theorem RelV.inj {x y : V} {u : Value} (r : RelV x u) (q : RelV y u) : x = y := Option.some.inj (r.abs.symm.trans q.abs)
theorem Vals.inj : ∀ {xs ys : List V} {us : List Value}, Vals xs us → Vals ys us → xs = ys
  | _, _, _, .nil, .nil => rfl
  | _, _, _, .cons r t, .cons r' t' => by rw [r.inj r', Vals.inj t t']
section
variable {X : Cx} {pins : List (Addr × Obj)} {σ : St} {H : Hp} {s : Shared} {a : Addr} {xs ys : List V}
theorem SqL.of {K : PySem.W.Frag} (h : H a = some (.lst xs)) : SqL K H a xs := .inl (.inl h)
theorem SqT.of {K : PySem.W.Frag} (h : H a = some (.tup xs)) : SqT K H a xs := .inl (.inl h)
theorem Inv.list (I : Inv X pins σ H s) (h : SqL X.K H a xs) : ∃ its : List Value, Vals xs its ∧ PlainL s.heap a its.toArray ∧ xs.length ≤ sizeLine := by
  rcases h with h | ⟨o, its, n, hk, hc, hd, hs, hz, r⟩
  · obtain ⟨z, its, n, r, e⟩ := h.ok I.hok
    exact ⟨its, r, ⟨_, n, e, rfl, rfl, rfl⟩, z⟩
  · refine ⟨its.toList, r, ⟨o, n, I.kIn a o hk, hc, hd, by simpa using hs⟩, ?_⟩
    have e := r.length
    simp only [Array.length_toList] at e
    omega
theorem Inv.tuple (I : Inv X pins σ H s) (h : SqT X.K H a xs) : ∃ its : List Value, Vals xs its ∧ IsTup s.heap a its.toArray ∧ xs.length ≤ sizeLine := by
  rcases h with h | ⟨o, its, n, hk, hc, hs, hz, r⟩
  · obtain ⟨z, its, r, p⟩ := h.ok I.hok
    exact ⟨its, r, p, z⟩
  · refine ⟨its.toList, r, ⟨o, I.kIn a o hk, hc, n, by simpa using hs⟩, ?_⟩
    have e := r.length
    simp only [Array.length_toList] at e
    omega
theorem Inv.list_inj (I : Inv X pins σ H s) (h : SqL X.K H a xs) (h' : SqL X.K H a ys) : xs = ys := by
  obtain ⟨its, r, ⟨o, n, e, _, _, d⟩, _⟩ := I.list h
  obtain ⟨its', r', ⟨o', n', e', _, _, d'⟩, _⟩ := I.list h'
  rw [e] at e'; cases e'
  rw [d] at d'
  injection d' with d1 _
  have : its = its' := by simpa using congrArg Array.toList d1
  subst this
  exact r.inj r'
theorem Inv.tuple_inj (I : Inv X pins σ H s) (h : SqT X.K H a xs) (h' : SqT X.K H a ys) : xs = ys := by
  obtain ⟨its, r, ⟨o, e, _, n, d⟩, _⟩ := I.tuple h
  obtain ⟨its', r', ⟨o', e', _, n', d'⟩, _⟩ := I.tuple h'
  rw [e] at e'; cases e'
  rw [d] at d'
  injection d' with d1 _
  have : its = its' := by simpa using congrArg Array.toList d1
  subst this
  exact r.inj r'
end
abbrev Cx.wish (X : Cx) (E : Value → Shared → Prop) : Cx := { X with xe := E }
abbrev Cx.nox (X : Cx) : Cx := X.wish fun _ _ => False
theorem Cx.Ok.wish {X : Cx} (ok : X.Ok) (E : Value → Shared → Prop) : (X.wish E).Ok :=
  ⟨ok.mod, ok.kind, ok.glob, ok.blt, ok.above, ok.inj, ok.has, ok.cab, ok.hd, ok.frames, ok.stk, ok.exf, ok.bs, ok.bsz, ok.noex, ok.exfs, ok.funs, ok.frf⟩
theorem Cx.Ok.unwish {X : Cx} {E : Value → Shared → Prop} (ok : (X.wish E).Ok) : X.Ok :=
  ⟨ok.mod, ok.kind, ok.glob, ok.blt, ok.above, ok.inj, ok.has, ok.cab, ok.hd, ok.frames, ok.stk, ok.exf, ok.bs, ok.bsz, ok.noex, ok.exfs, ok.funs, ok.frf⟩
section
variable {X : Cx} {pins : List (Addr × Obj)} {σ : St} {H : Hp} {s : Shared} {E : Value → Shared → Prop}
theorem Inv.wish (I : Inv X pins σ H s) (E : Value → Shared → Prop) : Inv (X.wish E) pins σ H s := ⟨I.ok.wish E, I.os, I.bare, I.base, I.loc, I.cell, I.free, I.freeC, I.pin, I.hok, I.len⟩
theorem Inv.unwish (I : Inv (X.wish E) pins σ H s) : Inv X pins σ H s := ⟨I.ok.unwish, I.os, I.bare, I.base, I.loc, I.cell, I.free, I.freeC, I.pin, I.hok, I.len⟩
theorem SP.unwish {D : Ends} {f : Flow} {s' : Shared} (h : SP (X.wish E) pins D f s') : SP X pins D f s' := by
  cases f with
  | next => obtain ⟨σ', H', I, q⟩ := h; exact ⟨σ', H', I.unwish, q⟩
  | brk => obtain ⟨σ', H', I, q⟩ := h; exact ⟨σ', H', I.unwish, q⟩
  | cont => obtain ⟨σ', H', I, q⟩ := h; exact ⟨σ', H', I.unwish, q⟩
  | ret u => obtain ⟨v, σ', H', I, r, q⟩ := h; exact ⟨v, σ', H', I.unwish, r, q⟩
theorem PE.nox {e : Expr} {t : TE} (h : PE X.nox e t) : PE X e t := fun pins s σ H Q I hw =>
  wpAny_mono (h pins s σ H Q (I.wish _) hw) (fun _ _ ⟨v, H', I', r, q⟩ => ⟨v, H', I'.unwish, r, q⟩) fun _ _ z => False.elim z
theorem PT.nox {e : Expr} {t : TT} (h : PT X.nox e t) : PT X e t := fun pins s σ H Q I hw =>
  wpAny_mono (h pins s σ H Q (I.wish _) hw) (fun _ _ ⟨H', I', q⟩ => ⟨H', I'.unwish, q⟩) fun _ _ z => False.elim z
theorem PSs.nox {st : List Stmt} {t : TS} (h : PSs X.nox st t) : PSs X st t := fun pins s σ H D I hw =>
  wpAny_mono (h pins s σ H D (I.wish _) hw) (fun _ _ q => q.unwish) fun _ _ z => False.elim z
end
section
variable {X : Cx} {st : Stmt} {rest : List Stmt} {t u : TS} {e : Expr} {te : TE} {pos : Pos}
def tNext : TS := fun D σ H => D.nx σ H
def tSeq (t u : TS) : TS := fun D σ H => t { D with nx := u D } σ H
theorem pss_nil : PSs X [] tNext := fun _ _ σ H _ I h => wpAny_execs_nil ⟨σ, H, I, h⟩
theorem pss_cons (h1 : PS X st t) (h2 : PSs X rest u) : PSs X (st :: rest) (tSeq t u) := by
  intro pins s σ H D I h
  refine wpAny_execs_cons (thn (h1 pins s σ H { D with nx := u D } I h) fun f s1 q => ?_)
  cases f with
  | next =>
    obtain ⟨σ', H', I', q⟩ := q
    exact h2 pins s1 σ' H' D I' q
  | ret v => exact q
  | brk => exact q
  | cont => exact q
theorem pss_one (h1 : PS X st t) : PSs X [st] t := by
  intro pins s σ H D I h
  refine wpAny_execs_cons (thn (h1 pins s σ H D I h) fun f s1 q => ?_)
  cases f with
  | next => exact wpAny_execs_nil q
  | ret v => exact q
  | brk => exact q
  | cont => exact q
def tBreak : TS := fun D σ H => D.bk σ H
def tCont : TS := fun D σ H => D.ct σ H
theorem Inv.quiet {pins : List (Addr × Obj)} {σ : St} {H : Hp} {s : Shared} (I : Inv X pins σ H s) : interactive X.env = false := by simp [interactive, I.ok.kind]
def tDrop (te : TE) : TS := fun D σ H => te σ H fun _ H1 => D.nx σ H1
theorem ps_expr (he : PE X e te) (hs : swapsWith e none pos.line X.env = pure false := by rfl) : PS X (.Expr e pos) (tDrop te) := by
  intro pins s σ H D I h
  exact wpAny_Expr_any (thn (he pins s σ H _ I h) fun v s1 ⟨x, H1, I1, r1, q1⟩ => ⟨σ, H1, I1, q1⟩) I.quiet hs
def tRet (te : TE) : TS := fun D σ H => te σ H D.rt
theorem ps_ret (he : PE X e te) : PS X (.Return (some e) pos) (tRet te) := by
  intro pins s σ H D I h
  exact wpAny_Return_some (thn (he pins s σ H _ I h) fun v s1 ⟨x, H1, I1, r1, q1⟩ => ⟨x, σ, H1, I1, r1, q1⟩)
def tRetN : TS := fun D _ H => D.rt .non H
def tIfS (c : TT) (t u : TS) : TS := fun D σ H => c σ H fun b H1 => if b = true then t D σ H1 else u D σ H1
theorem ps_if {c : Expr} {a b : List Stmt} {tc : TT} (hc : PT X c tc) (ha : PSs X a t) (hb : PSs X b u) : PS X (.If c a b pos) (tIfS tc t u) := by
  intro pins s σ H D I h
  refine wpAny_If (thn (hc pins s σ H _ I h) fun d s1 ⟨H1, I1, q1⟩ => ?_)
  cases d with
  | true => exact ha pins s1 σ H1 D I1 q1
  | false => exact hb pins s1 σ H1 D I1 q1
end
abbrev TG := V → St → Hp → (St → Hp → Prop) → Prop
abbrev TGs := List V → St → Hp → (St → Hp → Prop) → Prop
def PG (X : Cx) (target : Expr) (t : TG) : Prop :=
  ∀ (pins : List (Addr × Obj)) (s : Shared) (σ : St) (H : Hp) (v : V) (u : Value) (Q : St → Hp → Prop), Inv X pins σ H s → RelV v u → t v σ H Q →
    wpAny (model X.prog X.w) X.A (assign target X.env u) (fun _ s' => ∃ σ' H', Inv X pins σ' H' s' ∧ Q σ' H') X.xe s
def PGs (X : Cx) (ts : List Expr) (t : TGs) : Prop :=
  ∀ (pins : List (Addr × Obj)) (s : Shared) (σ : St) (H : Hp) (vs : List V) (us : List Value) (Q : St → Hp → Prop), Inv X pins σ H s → Vals vs us → t vs σ H Q →
    wpAny (model X.prog X.w) X.A (assignInOrder ((assignEach ts X.env).map (·.2)) us) (fun _ s' => ∃ σ' H', Inv X pins σ' H' s' ∧ Q σ' H') X.xe s
abbrev TSet := V → V → V → Hp → (Hp → Prop) → Prop
abbrev TIp := V → V → Hp → VK → Prop
section
variable {X : Cx} {pos : Pos}
def gName (i : Nat) : TG := fun v σ H Q => Q (σ.set i (some v)) H
theorem pg_name {i : Nat} {x : Str} (hN : X.N.Nodup) (hi : X.N[i]? = some x) (hx : Loc X.env.scope x) (hf : X.fn x = true ∨ X.env.scope.names.lookup x = some .local := by first | exact .inl rfl | exact .inr rfl | assumption) : PG X (.Name x pos) (gName i) := by
  intro pins s σ H v u Q I r h
  exact wpAny_assign_Name (store_ok I hN hi hx r (fun s' I' => ⟨_, H, I', h⟩) hf)
def gNil : TGs := fun vs σ H Q => vs = [] ∧ Q σ H
def gCons (t : TG) (u : TGs) : TGs := fun vs σ H Q => ∃ v r, vs = v :: r ∧ t v σ H fun σ' H' => u r σ' H' Q
theorem pgs_nil : PGs X [] gNil := by
  intro pins s σ H vs us Q I r h
  obtain ⟨e, h⟩ := h
  subst e
  cases r
  exact assignInOrder_nil ⟨σ, H, I, h⟩
theorem pgs_cons {e : Expr} {es : List Expr} {t : TG} {u : TGs} (h1 : PG X e t) (h2 : PGs X es u)
    (hs : (assignEach (e :: es) X.env).map (·.2) = assign e X.env :: (assignEach es X.env).map (·.2) := by rfl) : PGs X (e :: es) (gCons t u) := by
  intro pins s σ H vs us Q I r h
  obtain ⟨v, vr, e1, h⟩ := h
  subst e1
  cases r with
  | cons r rr =>
    rw [hs]
    refine assignInOrder_cons (thn (h1 pins s σ H _ _ _ I r h) fun _ s1 ⟨σ1, H1, I1, q1⟩ => ?_)
    exact h2 pins s1 σ1 H1 _ _ Q I1 rr q1
def gTup (K : PySem.W.Frag) (n : Nat) (t : TGs) : TG := fun v σ H Q => ∃ a xs, v = .ref a ∧ SqT K H a xs ∧ xs.length = n ∧ t xs σ H Q
theorem pg_tup {es : List Expr} {k : Nat} {t : TGs} {n : Nat} (hc : X.calm = true) (h : PGs X es t)
    (hn : (assignEach es X.env).length = n := by rfl) (hst : (assignEach es X.env).findIdx? (·.1) = none := by rfl) : PG X (.Tuple es k pos) (gTup X.K n t) := by
  intro pins s σ H v u Q I r hw
  obtain ⟨a, xs, e1, hq, hl, hw⟩ := hw
  subst e1
  cases r
  obtain ⟨its, rv, ht, hz⟩ := I.tuple hq
  refine assign_Tuple_tuple (I.ok.hd hc) ht (by simp [hn, ← hl, rv.length]) hst fun h' hx => ?_
  have I1 : Inv X pins σ H { s with heap := h' } := I.kept (t' := s.toks) fun b o e => hx b o (Nat.ne_of_lt (Heap.lt_size e)) e
  exact h pins _ σ H xs _ Q I1 (by simpa using rv) hw
def gSub (to ti : TE) (t : TSet) : TG := fun v σ H Q => to σ H fun o H1 => ti σ H1 fun i H2 => t o i v H2 fun H3 => Q σ H3
def tAsg (te : TE) (g : TG) : TS := fun D σ H => te σ H fun x H1 => g x σ H1 D.nx
theorem ps_set {i : Nat} {x : Str} {e : Expr} {te : TE} {pos' : Pos} (hN : X.N.Nodup) (hi : X.N[i]? = some x) (hx : Loc X.env.scope x) (he : PE X e te) (hs : swapsWith e (some (.Name x pos')) pos.line X.env = pure false := by rfl) (hf : X.fn x = true ∨ X.env.scope.names.lookup x = some .local := by first | exact .inl rfl | exact .inr rfl | assumption) :
    PS X (.Assign [.Name x pos'] e pos) (tAsg te (gName i)) := by
  intro pins s σ H D I h
  refine wpAny_Assign_Name (thn (he pins s σ H _ I h) fun v s1 ⟨y, H1, I1, r1, q1⟩ => ?_) hs
  exact store_ok I1 hN hi hx r1 (fun s2 I2 => ⟨_, H1, I2, q1⟩) hf
def tAug (i : Nat) (te : TE) (ti : TIp) : TS := fun D σ H => ∃ x, σ[i]? = some (some x) ∧ te σ H fun y H1 => ti x y H1 fun z H2 => D.nx (σ.set i (some z)) H2
def ipI (f : Int → Int → Int) : TIp := fun x y H Q => ∃ i j, x = .int i ∧ y = .int j ∧ Q (.int (f i j)) H
end
section
variable {X : Cx} {pos : Pos}
end
structure It where
  go : Nat → Hp → Prop
  yld : Nat → Hp → V → Hp → Prop
  stop : Nat → Hp → Prop
def FpOk (X : Cx) (pins : List (Addr × Obj)) (H : Hp) (b : Addr) : Prop :=
  H b = none ∧ b ≠ X.env.locals ∧ b ∉ X.fs ∧ (b ∈ X.ex ∨ X.s₀.heap.objs.size ≤ b) ∧ (∀ x c, X.env.cells.lookup x = some c → c ≠ b) ∧ ∀ p ∈ X.pn ++ pins, p.1 ≠ b
theorem Inv.fpOk {X : Cx} {pins : List (Addr × Obj)} {σ : St} {H H' : Hp} {s : Shared} {b : Addr} (I : Inv X pins σ H s) (hb : s.heap.objs.size ≤ b) (hn : H' b = none) : FpOk X pins H' b := by
  refine ⟨hn, Nat.ne_of_gt (Nat.lt_of_lt_of_le I.lt hb), I.nofs hb, .inr (Nat.le_trans I.sz hb), fun x c e z => ?_, fun p hp z => ?_⟩
  · obtain ⟨v, q⟩ := I.cell x c e
    exact absurd (Nat.lt_of_lt_of_le q.lt (by rw [z]; exact hb)) (Nat.lt_irrefl _)
  · exact absurd (Nat.lt_of_lt_of_le (Heap.lt_size (I.pin p hp).1) (by rw [z]; exact hb)) (Nat.lt_irrefl _)
structure Turn (P : Program) (w : World) (K : PySem.W.Frag) (tg : Expr) (J : It) (fp : List Addr) (it : Addr) (tn : Nat → Heap → Prop) : Prop where
  mem : it ∈ fp
  obj : ∀ i h, tn i h → ∀ b ∈ fp, ∃ o, h.get? b = some o ∧ ∀ v, o.data ≠ .cell v
  keep : ∀ i h h', tn i h → (∀ b ∈ fp, ∀ o, h.get? b = some o → h'.get? b = some o) → tn i h'
  item : ∀ (X : Cx), X.prog = P → X.w = w → X.K = K → X.calm = true → ∀ (i : Nat) (pins : List (Addr × Obj)) (s : Shared) (σ : St) (H : Hp) (E : Value → Shared → Prop), Inv X pins σ H s → (∀ b ∈ fp, FpOk X pins H b) → tn i s.heap → J.go i H →
    wpAny (model P w) X.A (pyNext (.ref it)) (fun r s1 => ∃ u, r = some u ∧
      wpAny (model P w) X.A (letOwnedTupleGo tg (.ref it) u) (fun _ s2 => ∃ x H', Inv X pins σ H' s2 ∧ RelV x u ∧ J.yld i H x H' ∧ tn (i + 1) s2.heap ∧ ∀ b ∈ fp, H' b = none) E s1) E s
  done : ∀ (X : Cx), X.prog = P → X.w = w → X.K = K → X.calm = true → ∀ (i : Nat) (pins : List (Addr × Obj)) (s : Shared) (σ : St) (H : Hp) (E : Value → Shared → Prop), Inv X pins σ H s → (∀ b ∈ fp, FpOk X pins H b) → tn i s.heap → J.stop i H →
    wpAny (model P w) X.A (pyNext (.ref it)) (fun r s1 => r = none ∧ Inv X pins σ H s1) E s
  self : ∀ (A : Around) (i : Nat) (s : Shared) (Q : Value → Shared → Prop) (E : Value → Shared → Prop), tn i s.heap → Q (.ref it) s → wpAny (model P w) A (pyIter (.ref it)) Q E s
abbrev TI := St → Hp → (It → Hp → Prop) → Prop
def PIE (X : Cx) (pins : List (Addr × Obj)) (σ : St) (tg : Expr) (R : It → Hp → Prop) (itv : Value) (s2 : Shared) : Prop :=
  ∃ (it : Addr) (fp : List Addr) (tn : Nat → Heap → Prop) (J : It) (H' : Hp), itv = .ref it ∧ Inv X pins σ H' s2 ∧ Turn X.prog X.w X.K tg J fp it tn ∧ tn 0 s2.heap ∧ (∀ b ∈ fp, FpOk X pins H' b) ∧ R J H'
def PI (X : Cx) (tg iter : Expr) (wi : TI) : Prop :=
  ∀ (pins : List (Addr × Obj)) (s : Shared) (σ : St) (H : Hp) (R : It → Hp → Prop), Inv X pins σ H s → wi σ H R →
    wpAny (model X.prog X.w) X.A (eval iter X.env) (fun v s1 => wpAny (model X.prog X.w) X.A (pyIter v) (PIE X pins σ tg R) X.xe s1) X.xe s
theorem go_of {M : Model} {A : Around} {E : Value → Shared → Prop} {s : Shared} {tg : Expr} {it : Addr} {u : Value} {o : Obj} {n : String} {vs : Array Value} {Q : Unit → Shared → Prop} (ho : s.heap.get? it = some o) (hc : o.cls = .type n) (hd : o.data = .fields vs)
    (hn : ["enumerate", "zip", "dict_itemiterator", "dict_reverseitemiterator", "odict_iterator", "itertools.zip_longest", "itertools.pairwise"].contains n = false) (hQ : Q () s) : wpAny M A (letOwnedTupleGo tg (.ref it) u) Q E s := by
  unfold letOwnedTupleGo
  cases tg <;> first
    | exact wpAny_pure hQ
    | (cases u <;> first
        | exact wpAny_pure hQ
        | (refine wpAny_bind (wpAny_load ho ?_)
           rw [hc, hd]
           show wpAny M A (if (["enumerate", "zip", "dict_itemiterator", "dict_reverseitemiterator", "odict_iterator", "itertools.zip_longest", "itertools.pairwise"].contains n && vs[0]? == some (rawInt _)) = true then _ else _) Q E s
           rw [if_neg (by intro h; rw [hn, Bool.false_and] at h; cases h)]
           exact wpAny_pure hQ))
def Itl (K : PySem.W.Frag) (a : Addr) : It :=
  ⟨fun i H => ∃ xs x, SqL K H a xs ∧ xs[i]? = some x, fun i H x H' => H' = H ∧ ∀ xs, SqL K H a xs → xs[i]? = some x, fun i H => ∃ xs, SqL K H a xs ∧ xs.length ≤ i⟩
def Itt (K : PySem.W.Frag) (a : Addr) : It :=
  ⟨fun i H => ∃ xs x, SqT K H a xs ∧ xs[i]? = some x, fun i H x H' => H' = H ∧ ∀ xs, SqT K H a xs → xs[i]? = some x, fun i H => ∃ xs, SqT K H a xs ∧ xs.length ≤ i⟩
def Itr (lo : Int) (n : Nat) : It := ⟨fun i _ => i < n, fun i H x H' => H' = H ∧ x = .int (lo + i), fun i _ => n ≤ i⟩
theorem turn_list {P : Program} {w : World} {K : PySem.W.Frag} {tg : Expr} (a it : Addr) : Turn P w K tg (Itl K a) [it] it (fun i h => h.IsListIter it a i) where
  mem := by simp
  obj := fun i h st b hb => by
    have e : b = it := by simpa using hb
    subst e
    obtain ⟨o, e, c, d⟩ := st
    exact ⟨o, e, fun v z => by rw [d] at z; cases z⟩
  keep := fun i h h' st k => st.at fun o e => k it (by simp) o e
  item := by
    intro X hP hw hK hc i pins s σ H E I hf st hg
    subst hP hw hK
    obtain ⟨xs, x, hq, hx⟩ := hg
    obtain ⟨its, rv, p, hz⟩ := I.list hq
    obtain ⟨u, hu, ru⟩ := rv.get hx
    obtain ⟨f0, f1, f2, f3, f4, f5⟩ := hf it (by simp)
    refine wpAny_pyNext_list_item st p.isList (x := u) (by simpa using hu) fun h' st' sb => ?_
    have I1 : Inv X pins σ H { s with heap := h' } := I.turned (t' := s.toks) (fun b o hb e => (sb.2 b hb).trans e) f0 f1 f3 f4 f5
    obtain ⟨o, e, c, d⟩ := id st'
    exact ⟨u, rfl, go_of (s := { s with heap := h' }) e c d (by decide) ⟨x, H, I1, ru, ⟨rfl, fun ys hy => by rw [I.list_inj hy hq]; exact hx⟩, st', fun b hb => (hf b hb).1⟩⟩
  done := by
    intro X hP hw hK hc i pins s σ H E I hf st hg
    subst hP hw hK
    obtain ⟨xs, hq, hx⟩ := hg
    obtain ⟨its, rv, p, hz⟩ := I.list hq
    obtain ⟨f0, f1, f2, f3, f4, f5⟩ := hf it (by simp)
    have hl := rv.length
    exact wpAny_pyNext_list_end (I.ok.hd hc) st p.isList (by simp; omega) fun h' eb => ⟨rfl, I.turned (t' := s.toks) (fun b o hb e => eb b o hb e) f0 f1 f3 f4 f5⟩
  self := fun _ _ _ _ _ st h => wpAny_pyIter_listiter st h
theorem turn_tuple {P : Program} {w : World} {K : PySem.W.Frag} {tg : Expr} (a it : Addr) : Turn P w K tg (Itt K a) [it] it (fun i h => h.IsTupleIter it a i) where
  mem := by simp
  obj := fun i h st b hb => by
    have e : b = it := by simpa using hb
    subst e
    obtain ⟨o, e, c, d⟩ := st
    exact ⟨o, e, fun v z => by rw [d] at z; cases z⟩
  keep := fun i h h' st k => st.at fun o e => k it (by simp) o e
  item := by
    intro X hP hw hK hc i pins s σ H E I hf st hg
    subst hP hw hK
    obtain ⟨xs, x, hq, hx⟩ := hg
    obtain ⟨its, rv, p, hz⟩ := I.tuple hq
    obtain ⟨u, hu, ru⟩ := rv.get hx
    obtain ⟨f0, f1, f2, f3, f4, f5⟩ := hf it (by simp)
    refine wpAny_pyNext_tuple_item st (show s.heap.IsTuple a its.toArray from p) (x := u) (by simpa using hu) fun h' st' sb => ?_
    have I1 : Inv X pins σ H { s with heap := h' } := I.turned (t' := s.toks) (fun b o hb e => (sb.2 b hb).trans e) f0 f1 f3 f4 f5
    obtain ⟨o, e, c, d⟩ := id st'
    exact ⟨u, rfl, go_of (s := { s with heap := h' }) e c d (by decide) ⟨x, H, I1, ru, ⟨rfl, fun ys hy => by rw [I.tuple_inj hy hq]; exact hx⟩, st', fun b hb => (hf b hb).1⟩⟩
  done := by
    intro X hP hw hK hc i pins s σ H E I hf st hg
    subst hP hw hK
    obtain ⟨xs, hq, hx⟩ := hg
    obtain ⟨its, rv, p, hz⟩ := I.tuple hq
    obtain ⟨f0, f1, f2, f3, f4, f5⟩ := hf it (by simp)
    have hl := rv.length
    exact wpAny_pyNext_tuple_end (I.ok.hd hc) st (show s.heap.IsTuple a its.toArray from p) (by simp; omega) fun h' eb => ⟨rfl, I.turned (t' := s.toks) (fun b o hb e => eb b o hb e) f0 f1 f3 f4 f5⟩
  self := fun _ _ _ _ _ st h => wpAny_pyIter_tupleiter st h
theorem turn_range {P : Program} {w : World} {K : PySem.W.Frag} {tg : Expr} (it : Addr) (lo : Int) (n : Nat) : Turn P w K tg (Itr lo n) [it] it (fun i h => IsRangeIter h it (lo + (i : Nat) * 1) ((n : Int) - (i : Nat)) 1) where
  mem := by simp
  obj := fun i h st b hb => by
    have e : b = it := by simpa using hb
    subst e
    exact ⟨_, st, fun v z => by
      have z' : Data.fields _ = Data.cell v := z
      cases z'⟩
  keep := fun i h h' st k => k it (by simp) _ st
  item := by
    intro X hP hw hK hc i pins s σ H E I hf st hg
    subst hP hw hK
    obtain ⟨f0, f1, f2, f3, f4, f5⟩ := hf it (by simp)
    have W := Walks.range (prog := X.prog) (w := X.w) (I.ok.hd hc) it lo 1 n
    refine W.item i s _ _ hg st fun v h' tk hv st' kk => ?_
    obtain ⟨t, rfl⟩ := hv
    have I1 : Inv X pins σ H { s with heap := h', toks := tk } := I.turned (fun b o hb e => kk b o (by simpa using hb) e) f0 f1 f3 f4 f5
    refine ⟨_, rfl, go_of (s := { s with heap := h', toks := tk }) (n := "range_iterator") st' rfl rfl (by decide) ⟨.int (lo + i), H, I1, ⟨t, ?_⟩, ⟨rfl, rfl⟩, st', fun b hb => (hf b hb).1⟩⟩
    rw [Int.mul_one]
  done := by
    intro X hP hw hK hc i pins s σ H E I hf st hg
    subst hP hw hK
    obtain ⟨f0, f1, f2, f3, f4, f5⟩ := hf it (by simp)
    exact wpAny_pyNext_range_end (I.ok.hd hc) st (by have : n ≤ i := hg; omega) fun h' eb => ⟨rfl, I.turned (t' := s.toks) (fun b o hb e => eb b o hb e) f0 f1 f3 f4 f5⟩
  self := fun _ _ _ _ _ st h => wpAny_pyIter_rangeiter st h
end L2
namespace L2
open PySem PySem.Spec PyProof.Rows
section
variable {X : Cx} {tg : Expr}
def iList (K : PySem.W.Frag) (tl : TE) : TI := fun σ H R => tl σ H fun x H1 => ∃ a, x = .ref a ∧ (∃ xs, SqL K H1 a xs) ∧ R (Itl K a) H1
def iTup (K : PySem.W.Frag) (tl : TE) : TI := fun σ H R => tl σ H fun x H1 => ∃ a, x = .ref a ∧ (∃ xs, SqT K H1 a xs) ∧ R (Itt K a) H1
theorem pi_list {l : Expr} {tl : TE} (hl : PE X l tl) : PI X tg l (iList X.K tl) := by
  intro pins s σ H R I h
  refine thn (hl pins s σ H _ I h) fun v s1 ⟨x, H1, I1, r1, q1⟩ => ?_
  obtain ⟨a, e, ⟨xs, hq⟩, q⟩ := q1
  subst e
  cases r1
  obtain ⟨its, rv, p, hz⟩ := I1.list hq
  refine wpAny_pyIter_list p.isList ?_
  refine ⟨s1.heap.objs.size, [s1.heap.objs.size], _, _, H1, rfl, I1.kept (t' := s1.toks) fun b o e => Heap.get?_push_of_some _ e, turn_list a _, ⟨_, Heap.get?_push_size _ rfl, rfl, rfl⟩, fun b hb => ?_, q⟩
  have e : b = s1.heap.objs.size := by simpa using hb
  subst e
  exact I1.fpOk (Nat.le_refl _) (I1.hok.fresh (Nat.le_refl _))
theorem pi_tup {l : Expr} {tl : TE} (hl : PE X l tl) : PI X tg l (iTup X.K tl) := by
  intro pins s σ H R I h
  refine thn (hl pins s σ H _ I h) fun v s1 ⟨x, H1, I1, r1, q1⟩ => ?_
  obtain ⟨a, e, ⟨xs, hq⟩, q⟩ := q1
  subst e
  cases r1
  obtain ⟨its, rv, p, hz⟩ := I1.tuple hq
  refine wpAny_pyIter_tuple (show s1.heap.IsTuple a its.toArray from p) ?_
  refine ⟨s1.heap.objs.size, [s1.heap.objs.size], _, _, H1, rfl, I1.kept (t' := s1.toks) fun b o e => Heap.get?_push_of_some _ e, turn_tuple a _, ⟨_, Heap.get?_push_size _ rfl, rfl, rfl⟩, fun b hb => ?_, q⟩
  have e : b = s1.heap.objs.size := by simpa using hb
  subst e
  exact I1.fpOk (Nat.le_refl _) (I1.hok.fresh (Nat.le_refl _))
theorem range_it {pins : List (Addr × Obj)} {σ : St} {H : Hp} {s : Shared} {R : It → Hp → Prop} {E : Value → Shared → Prop} {lo hi : Int} {t u v : Tok} {tk : Nat} (I : Inv X pins σ H s) (h1 : -(2 ^ 62) ≤ lo) (h2 : lo < 2 ^ 62) (h3 : -(2 ^ 62) ≤ hi) (h4 : hi < 2 ^ 62)
    (q : R (Itr lo (hi - lo).toNat) H) : wpAny (model X.prog X.w) X.A (pyIter (.ref s.heap.objs.size)) (PIE X pins σ tg R) E { s with heap := s.heap.push { cls := .type "range", data := .fields #[.int lo t, .int hi u, .int 1 v] }, toks := tk } := by
  refine wpAny_pyIter_range (IsRange.new ..) (small_one h1 h2 h3 h4) ?_
  have I1 : Inv X pins σ H { s with heap := s.heap.push { cls := .type "range", data := .fields #[.int lo t, .int hi u, .int 1 v] }, toks := tk } := I.kept fun b o e => Heap.get?_push_of_some _ e
  refine ⟨(s.heap.push { cls := .type "range", data := .fields #[.int lo t, .int hi u, .int 1 v] }).objs.size, [(s.heap.push { cls := .type "range", data := .fields #[.int lo t, .int hi u, .int 1 v] }).objs.size], _, _, H, rfl,
    I1.kept (t' := tk) fun b o e => Heap.get?_push_of_some _ e, turn_range _ lo (hi - lo).toNat, ?_, fun b hb => ?_, q⟩
  · have e1 : lo + ((0 : Nat) : Int) * 1 = lo := by simp
    have e2 : (((hi - lo).toNat : Nat) : Int) - ((0 : Nat) : Int) = Builtin.Range.rangeSize lo hi 1 := by rw [rangeSize_one]; split <;> omega
    show IsRangeIter _ _ (lo + ((0 : Nat) : Int) * 1) ((((hi - lo).toNat : Nat) : Int) - ((0 : Nat) : Int)) 1
    rw [e1, e2]
    exact Heap.get?_push_size _ rfl
  · have e : b = (s.heap.push { cls := .type "range", data := .fields #[.int lo t, .int hi u, .int 1 v] }).objs.size := by simpa using hb
    subst e
    exact I1.fpOk (Nat.le_refl _) (I1.hok.fresh (Nat.le_refl _))
def iRng1 (ta : TA) : TI := fun σ H R => ta σ H fun vs H1 => ∃ j : Int, vs = [.int j] ∧ -(2 ^ 62) ≤ j ∧ j < 2 ^ 62 ∧ R (Itr 0 j.toNat) H1
def iRng2 (ta : TA) : TI := fun σ H R => ta σ H fun vs H1 => ∃ i j : Int, vs = [.int i, .int j] ∧ (-(2 ^ 62) ≤ i ∧ i < 2 ^ 62 ∧ -(2 ^ 62) ≤ j ∧ j < 2 ^ 62) ∧ R (Itr i (j - i).toNat) H1
theorem pi_range1 {a : Expr} {ta : TA} {p pos : Pos} (hg : Gl X "range") (hm : X.mg "range" = none) (ha : PA X [a] ta) (hs : starEach [a] X.env = [(false, eval a X.env)] := by rfl) : PI X tg (.Call (.Name "range" p) [a] [] pos) (iRng1 ta) := by
  intro pins s σ H R I h
  refine Call_ (ld_blt I hg hm boot_range (PyProof.Rows.callWith_type1 (thn (ha pos pins s σ H _ I h) fun us s1 ⟨vs, H1, I1, r1, q1⟩ => ?_) hs rfl))
  obtain ⟨j, e, q1, q2, q⟩ := q1
  subst e
  cases r1 with
  | cons r rr =>
    cases rr
    obtain ⟨t, rfl⟩ := r
    exact call_range_1 (range_it I1 (by omega) (by omega) q1 q2 (by simpa using q))
def tFor (wi : TI) (g : TG) (tb : TS) : TS := fun D σ H => wi σ H fun J H1 => ∃ W : Nat → Nat → St → Hp → Prop, (∃ m, W 0 m σ H1) ∧ ∀ i m σ H, W i m σ H →
  (J.stop i H ∧ D.nx σ H) ∨ (J.go i H ∧ ∃ N : St → Hp → Prop, (∀ σ' H', N σ' H' → ∃ m', m' < m ∧ W (i + 1) m' σ' H') ∧ ∀ x H', J.yld i H x H' → g x σ H' fun σ2 H2 => tb { D with nx := N, ct := N, bk := D.nx } σ2 H2)
def pinsAt (fp : List Addr) (h : Heap) : List (Addr × Obj) := fp.filterMap fun b => (h.get? b).map fun o => (b, o)
theorem mem_pinsAt {fp : List Addr} {h : Heap} {b : Addr} {o : Obj} (hb : b ∈ fp) (e : h.get? b = some o) : (b, o) ∈ pinsAt fp h := List.mem_filterMap.mpr ⟨b, hb, by rw [e]; rfl⟩
theorem of_pinsAt {fp : List Addr} {h : Heap} {p : Addr × Obj} (hp : p ∈ pinsAt fp h) : p.1 ∈ fp ∧ h.get? p.1 = some p.2 := by
  obtain ⟨b, hb, e⟩ := List.mem_filterMap.mp hp
  cases q : h.get? b with
  | none => rw [q] at e; cases e
  | some o =>
    rw [q] at e
    have e' : (b, o) = p := Option.some.inj e
    subst e'
    exact ⟨hb, q⟩
theorem Inv.pinned {pins : List (Addr × Obj)} {σ : St} {H : Hp} {s : Shared} {fp : List Addr} (I : Inv X pins σ H s) (hf : ∀ b ∈ fp, FpOk X pins H b) (ho : ∀ b ∈ fp, ∃ o, s.heap.get? b = some o ∧ ∀ v, o.data ≠ .cell v) : Inv X (pins ++ pinsAt fp s.heap) σ H s :=
  I.pins_of fun p hp => (List.mem_append.mp hp).elim (fun z => I.pin p (List.mem_append_right _ z)) fun z => by
    obtain ⟨hb, e⟩ := of_pinsAt z
    obtain ⟨f0, f1, f2, _⟩ := hf p.1 hb
    obtain ⟨o, e', d⟩ := ho p.1 hb
    rw [e] at e'; cases e'
    exact ⟨e, f0, f1, f2, d⟩
theorem Inv.unpinned {pins pl : List (Addr × Obj)} {σ : St} {H : Hp} {s : Shared} (I : Inv X (pins ++ pl) σ H s) : Inv X pins σ H s := I.pins_of fun p hp => I.pin p (List.mem_append_right _ (List.mem_append_left _ hp))
theorem ps_for {iter : Expr} {body : List Stmt} {wi : TI} {g : TG} {tb : TS} {pos : Pos} (hp : PassesOwn (model X.prog X.w) X.A X.env X.xe) (hc : X.calm = true) (hi : PI X tg iter wi) (hg : PG X tg g) (hb : PSs X body tb)
    (hs : ∀ x, foldedSetIterable iter X.env x = pure x := by intro _; rfl) : PS X (.For tg iter body [] pos) (tFor wi g tb) := by
  intro pins s σ H D I h
  refine wpAny_For (thn (hi pins s σ H _ I h) fun v s1 h1 => thn h1 fun itv s2 h2 => ?_) hs
  obtain ⟨it, fp, tn, J, H2, e, I2, T, st2, f2, W, ⟨m0, w0⟩, turn⟩ := h2
  subst e
  -- what stays true of the iterator's objects through the loop
  have stat : ∀ {H' : Hp}, (∀ b ∈ fp, H' b = none) → ∀ b ∈ fp, FpOk X pins H' b := fun hn b hb => ⟨hn b hb, (f2 b hb).2⟩
  refine codeAny_forLoop_any (fun n s' => ∃ i σ' H', Inv X pins σ' H' s' ∧ tn i s'.heap ∧ (∀ b ∈ fp, H' b = none) ∧ W i n σ' H') ?_ m0 ⟨0, σ, H2, I2, st2, fun b hb => (f2 b hb).1, w0⟩
  rintro n s3 ⟨i, σ3, H3, I3, st3, fr3, w3⟩
  rcases turn i n σ3 H3 w3 with ⟨stop, qn⟩ | ⟨go, N, hN, step⟩
  · refine wpAny_passesOwn hp (thn (T.done X rfl rfl rfl hc i pins s3 σ3 H3 X.xe I3 (stat fr3) st3 stop) fun r s4 ⟨hr, I4⟩ => ?_)
    subst hr
    exact wpAny_execs_nil ⟨σ3, H3, I4, qn⟩
  · refine wpAny_passesOwn hp (thn (T.item X rfl rfl rfl hc i pins s3 σ3 H3 X.xe I3 (stat fr3) st3 go) fun r s4 ⟨u, hr, h4⟩ => ?_)
    subst hr
    refine wpAny_passesOwn hp (thn h4 fun _ s5 ⟨x, H5, I5, r5, y5, st5, fr5⟩ => ?_)
    have I5' := I5.pinned (stat fr5) (T.obj _ _ st5)
    refine wpAny_passesOwn hp (thn (hg _ s5 σ3 H5 x u _ I5' r5 (step x H5 y5)) fun _ s6 ⟨σ6, H6, I6, q6⟩ => ?_)
    refine wpAny_passesOwn hp (thn (hb _ s6 σ6 H6 _ I6 q6) fun f s7 q7 => ?_)
    have again : ∀ {σ7 : St} {H7 : Hp}, Inv X (pins ++ pinsAt fp s5.heap) σ7 H7 s7 → N σ7 H7 → ∃ m, m < n ∧ ∃ i σ' H', Inv X pins σ' H' s7 ∧ tn i s7.heap ∧ (∀ b ∈ fp, H' b = none) ∧ W i m σ' H' := fun {σ7 H7} I7 n7 => by
      obtain ⟨m', hm, w7⟩ := hN σ7 H7 n7
      refine ⟨m', hm, i + 1, σ7, H7, I7.unpinned, T.keep _ _ _ st5 fun b hb o e => (I7.pin (b, o) (List.mem_append_right _ (List.mem_append_right _ (mem_pinsAt hb e)))).1, fun b hb => ?_, w7⟩
      obtain ⟨o, e, d⟩ := T.obj _ _ st5 b hb
      exact (I7.pin (b, o) (List.mem_append_right _ (List.mem_append_right _ (mem_pinsAt hb e)))).2.1
    cases f with
    | next => obtain ⟨σ7, H7, I7, n7⟩ := q7; exact again I7 n7
    | cont => obtain ⟨σ7, H7, I7, n7⟩ := q7; exact again I7 n7
    | brk => obtain ⟨σ7, H7, I7, q7⟩ := q7; exact ⟨σ7, H7, I7.unpinned, q7⟩
    | ret v => obtain ⟨x7, σ7, H7, I7, r7, q7⟩ := q7; exact ⟨x7, σ7, H7, I7.unpinned, r7, q7⟩
end
theorem for_list {K : PySem.W.Frag} {a : Addr} {xs : List V} {g : TG} {tb : TS} {D : Ends} {σ : St} {H : Hp} (Pv : Nat → St → Hp → Prop) (h0 : Pv 0 σ H) (hl : ∀ i σ H, i ≤ xs.length → Pv i σ H → SqL K H a xs)
    (hs : ∀ i x σ H, xs[i]? = some x → Pv i σ H → g x σ H fun σ2 H2 => tb { D with nx := Pv (i + 1), ct := Pv (i + 1), bk := D.nx } σ2 H2) (hd : ∀ σ H, Pv xs.length σ H → D.nx σ H) :
    ∃ W : Nat → Nat → St → Hp → Prop, (∃ m, W 0 m σ H) ∧ ∀ i m σ H, W i m σ H →
      ((Itl K a).stop i H ∧ D.nx σ H) ∨ ((Itl K a).go i H ∧ ∃ N : St → Hp → Prop, (∀ σ' H', N σ' H' → ∃ m', m' < m ∧ W (i + 1) m' σ' H') ∧ ∀ x H', (Itl K a).yld i H x H' → g x σ H' fun σ2 H2 => tb { D with nx := N, ct := N, bk := D.nx } σ2 H2) := by
  refine ⟨fun i m σ H => m = xs.length - i ∧ i ≤ xs.length ∧ Pv i σ H, ⟨xs.length, by simp, Nat.zero_le _, h0⟩, ?_⟩
  rintro i m σ H ⟨rfl, hi, p⟩
  have q := hl i σ H hi p
  by_cases hlt : i < xs.length
  · refine .inr ⟨⟨xs, xs[i], q, by simp [hlt]⟩, Pv (i + 1), fun σ' H' p' => ⟨xs.length - (i + 1), by omega, rfl, hlt, p'⟩, fun x H' y => ?_⟩
    obtain ⟨e, y⟩ := y
    subst e
    exact hs i x σ _ (y xs q) p
  · have e : i = xs.length := by omega
    subst e
    exact .inl ⟨⟨xs, q, Nat.le_refl _⟩, hd σ H p⟩
theorem for_range {lo : Int} {n : Nat} {g : TG} {tb : TS} {D : Ends} {σ : St} {H : Hp} (Pv : Nat → St → Hp → Prop) (h0 : Pv 0 σ H)
    (hs : ∀ i σ H, i < n → Pv i σ H → g (.int (lo + i)) σ H fun σ2 H2 => tb { D with nx := Pv (i + 1), ct := Pv (i + 1), bk := D.nx } σ2 H2) (hd : ∀ σ H, Pv n σ H → D.nx σ H) :
    ∃ W : Nat → Nat → St → Hp → Prop, (∃ m, W 0 m σ H) ∧ ∀ i m σ H, W i m σ H →
      ((Itr lo n).stop i H ∧ D.nx σ H) ∨ ((Itr lo n).go i H ∧ ∃ N : St → Hp → Prop, (∀ σ' H', N σ' H' → ∃ m', m' < m ∧ W (i + 1) m' σ' H') ∧ ∀ x H', (Itr lo n).yld i H x H' → g x σ H' fun σ2 H2 => tb { D with nx := N, ct := N, bk := D.nx } σ2 H2) := by
  refine ⟨fun i m σ H => m = n - i ∧ i ≤ n ∧ Pv i σ H, ⟨n, by simp, Nat.zero_le _, h0⟩, ?_⟩
  rintro i m σ H ⟨rfl, hi, p⟩
  by_cases hlt : i < n
  · refine .inr ⟨hlt, Pv (i + 1), fun σ' H' p' => ⟨n - (i + 1), by omega, rfl, hlt, p'⟩, fun x H' y => ?_⟩
    obtain ⟨e, y⟩ := y
    subst e y
    exact hs i σ _ hlt p
  · have e : i = n := by omega
    subst e
    exact .inl ⟨Nat.le_refl _, hd σ H p⟩
end L2
namespace L2
open PySem PySem.Spec PyProof.Rows
abbrev R2 := V → V → Hp → VK → Prop
def OpR (X : Cx) (f : Value → Value → Sem Value) (r : R2) : Prop :=
  ∀ (pins : List (Addr × Obj)) (s : Shared) (σ : St) (H : Hp) (x y : V) (v u : Value) (Q : VK), Inv X pins σ H s → RelV x v → RelV y u → r x y H Q →
    wpAny (model X.prog X.w) X.A (f v u) (EP X pins σ Q) X.xe s
def UnR (X : Cx) (f : Value → Sem Value) (r : V → Hp → VK → Prop) : Prop :=
  ∀ (pins : List (Addr × Obj)) (s : Shared) (σ : St) (H : Hp) (x : V) (v : Value) (Q : VK), Inv X pins σ H s → RelV x v → r x H Q →
    wpAny (model X.prog X.w) X.A (f v) (EP X pins σ Q) X.xe s
def CallR (X : Cx) (f : Value) (r : List V → Hp → VK → Prop) : Prop :=
  ∀ (pins : List (Addr × Obj)) (s : Shared) (σ : St) (H : Hp) (xs : List V) (us : List Value) (Q : VK), Inv X pins σ H s → Vals xs us → r xs H Q →
    wpAny (model X.prog X.w) X.A (call f us) (EP X pins σ Q) X.xe s
def tOp (r : R2) (ta tb : TE) : TE := fun σ H Q => ta σ H fun x H1 => tb σ H1 fun y H2 => r x y H2 Q
def tUn (r : V → Hp → VK → Prop) (ta : TE) : TE := fun σ H Q => ta σ H fun x H1 => r x H1 Q
def rI (C : Int → Int → Prop) (g : Int → Int → V) : R2 := fun x y H Q => ∃ i j, x = .int i ∧ y = .int j ∧ C i j ∧ Q (g i j) H
def rI0 (g : Int → Int → V) : R2 := fun x y H Q => ∃ i j, x = .int i ∧ y = .int j ∧ Q (g i j) H
def rU (g : Int → V) : V → Hp → VK → Prop := fun x H Q => ∃ i, x = .int i ∧ Q (g i) H
section
variable {X : Cx} {a b c : Expr} {ta tb tc : TE} {pos : Pos}
theorem binT (ha : PE X a ta) (hb : PE X b tb) {pins : List (Addr × Obj)} {s : Shared} {σ : St} {H : Hp} {R : V → V → Hp → Prop} (I : Inv X pins σ H s)
    (h : ta σ H fun x H1 => tb σ H1 fun y H2 => R x y H2) {Q : Value → Shared → Prop} {f : Value → Value → Sem Value}
    (hf : ∀ v u s2 x y H2, Inv X pins σ H2 s2 → RelV x v → RelV y u → R x y H2 → wpAny (model X.prog X.w) X.A (f v u) Q X.xe s2) :
    wpAny (model X.prog X.w) X.A (eval a X.env) (fun v s₁ => wpAny (model X.prog X.w) X.A (eval b X.env) (fun u s₂ => wpAny (model X.prog X.w) X.A (f v u) Q X.xe s₂) X.xe s₁) X.xe s := by
  refine thn (ha pins s σ H _ I h) fun v s1 ⟨x, H1, I1, r1, q1⟩ => ?_
  refine thn (hb pins s1 σ H1 _ I1 q1) fun u s2 ⟨y, H2, I2, r2, q2⟩ => ?_
  exact hf v u s2 x y H2 I2 r1 r2 q2
theorem pe_op {op : Operator} {r : R2} (ho : OpR X (binaryOp op) r) (ha : PE X a ta) (hb : PE X b tb) : PE X (.BinOp a op b pos) (tOp r ta tb) := by
  intro pins s σ H Q I h
  exact wpAny_BinOp (binT ha hb I h fun v u s2 x y H2 I2 rx ry q => ho pins s2 σ H2 x y v u Q I2 rx ry q)
theorem pe_un {op : UnaryOp} {r : V → Hp → VK → Prop} (ho : UnR X (unaryOp op) r) (ha : PE X a ta) : PE X (.UnaryOp op a pos) (tUn r ta) := by
  intro pins s σ H Q I h
  exact UnaryOp_ (thn (ha pins s σ H _ I h) fun v s1 ⟨x, H1, I1, r1, q1⟩ => ho pins s1 σ H1 x v Q I1 r1 q1)
theorem opI {f : Value → Value → Sem Value} {C : Int → Int → Prop} {g : Int → Int → Int}
    (rule : ∀ (i j : Int) (t u : Tok) (s : Shared) (Q : Value → Shared → Prop) (E : Value → Shared → Prop), C i j → Q (.int (g i j) s.toks) { s with toks := s.toks + 1 } → wpAny (model X.prog X.w) X.A (f (.int i t) (.int j u)) Q E s) :
    OpR X f (rI C fun i j => .int (g i j)) := by
  intro pins s σ H x y v u Q I rx ry h
  obtain ⟨i, j, rfl, rfl, hc, q⟩ := h
  obtain ⟨t, rfl⟩ := rx
  obtain ⟨t', rfl⟩ := ry
  exact rule i j t t' s _ _ hc ⟨.int (g i j), H, I.tok _, ⟨_, rfl⟩, q⟩
theorem opI0 {f : Value → Value → Sem Value} {g : Int → Int → Int}
    (rule : ∀ (i j : Int) (t u : Tok) (s : Shared) (Q : Value → Shared → Prop) (E : Value → Shared → Prop), Q (.int (g i j) s.toks) { s with toks := s.toks + 1 } → wpAny (model X.prog X.w) X.A (f (.int i t) (.int j u)) Q E s) :
    OpR X f (rI0 fun i j => .int (g i j)) := by
  intro pins s σ H x y v u Q I rx ry h
  obtain ⟨i, j, rfl, rfl, q⟩ := h
  obtain ⟨t, rfl⟩ := rx
  obtain ⟨t', rfl⟩ := ry
  exact rule i j t t' s _ _ ⟨.int (g i j), H, I.tok _, ⟨_, rfl⟩, q⟩
theorem opB0 {f : Value → Value → Sem Value} {g : Int → Int → Bool}
    (rule : ∀ (i j : Int) (t u : Tok) (s : Shared) (Q : Value → Shared → Prop) (E : Value → Shared → Prop), Q (.bool (g i j)) s → wpAny (model X.prog X.w) X.A (f (.int i t) (.int j u)) Q E s) :
    OpR X f (rI0 fun i j => .bl (g i j)) := by
  intro pins s σ H x y v u Q I rx ry h
  obtain ⟨i, j, rfl, rfl, q⟩ := h
  obtain ⟨t, rfl⟩ := rx
  obtain ⟨t', rfl⟩ := ry
  exact rule i j t t' s _ _ ⟨.bl (g i j), H, I, rfl, q⟩
def CMul (i j : Int) : Prop := (-(2 ^ 64) < i ∧ i < 2 ^ 64) ∨ (-(2 ^ 64) < j ∧ j < 2 ^ 64)
theorem CMul.ok {i j : Int} (h : CMul i j) : IntMulOk i j := by
  rcases h with ⟨h1, h2⟩ | ⟨h1, h2⟩
  · exact .of_left (intBits_le_64 h1 h2)
  · exact .of_right (intBits_le_64 h1 h2)
theorem two_pow_nn (k : Nat) : (0 : Int) ≤ 2 ^ k := by
  rw [two_pow_cast]
  exact Int.natCast_nonneg _
theorem op_add : OpR X (binaryOp .Add) (rI0 fun i j => .int (i + j)) := opI0 fun _ _ _ _ _ _ _ q => add_int q
theorem op_sub : OpR X (binaryOp .Sub) (rI0 fun i j => .int (i - j)) := opI0 fun _ _ _ _ _ _ _ q => sub_int q
theorem op_mod : OpR X (binaryOp .Mod) (rI (fun _ j => 0 < j) fun i j => .int (i % j)) := opI fun i j _ _ _ _ _ hc q => by
  have h1 : (0 : Int) < j := hc
  exact mod_int' (by omega) (by rw [Int.fmod_eq_emod_of_nonneg i (by omega)]; exact q)
theorem op_shr : OpR X (binaryOp .RShift) (rI (fun _ j => 0 ≤ j) fun i j => .int (i / 2 ^ j.toNat)) := opI fun i j _ _ _ _ _ hc q =>
  rshift_int hc (by rw [Int.fdiv_eq_ediv_of_nonneg i (two_pow_nn _)]; exact q)
theorem op_and : OpR X (binaryOp .BitAnd) (rI0 fun i j => .int (Builtin.bitAnd i j)) := opI0 fun _ _ _ _ _ _ _ q => and_int q
theorem unI {f : Value → Sem Value} {g : Int → Int}
    (rule : ∀ (i : Int) (t : Tok) (s : Shared) (Q : Value → Shared → Prop) (E : Value → Shared → Prop), Q (.int (g i) s.toks) { s with toks := s.toks + 1 } → wpAny (model X.prog X.w) X.A (f (.int i t)) Q E s) :
    UnR X f (rU fun i => .int (g i)) := by
  intro pins s σ H x v Q I rx h
  obtain ⟨i, rfl, q⟩ := h
  obtain ⟨t, rfl⟩ := rx
  exact rule i t s _ _ ⟨.int (g i), H, I.tok _, ⟨_, rfl⟩, q⟩
theorem un_neg : UnR X (unaryOp .USub) (rU fun i => .int (-i)) := unI fun _ _ _ _ _ q => neg_int q
end
def scal : V → V → Bool
  | .non, .non => true | .non, .int _ => true | .int _, .non => true | .non, .bl _ => true | .bl _, .non => true | .non, .str _ => true | .str _, .non => true
  | .int _, .int _ => true | .bl _, .bl _ => true | .str _, .str _ => true | .byt _, .byt _ => true
  | .int _, .str _ => true | .str _, .int _ => true | .bl _, .str _ => true | .str _, .bl _ => true
  | _, _ => false
def rEq : R2 := fun x y H Q => scal x y = true ∧ Q (.bl (decide (x = y))) H
def rNe : R2 := fun x y H Q => scal x y = true ∧ Q (.bl (!decide (x = y))) H
theorem dec_int {i j : Int} : decide (V.int i = V.int j) = (i == j) := by
  rw [Bool.eq_iff_iff]
  simp
theorem dec_bl {i j : Bool} : decide (V.bl i = V.bl j) = (i == j) := by
  rw [Bool.eq_iff_iff]
  simp
theorem dec_str {i j : Str} : decide (V.str i = V.str j) = (i == j) := by
  rw [Bool.eq_iff_iff]
  simp
theorem dec_byt {i j : Array UInt8} : decide (V.byt i = V.byt j) = (i.toList == j.toList) := by
  rw [Bool.eq_iff_iff]
  cases i
  cases j
  simp
section
variable {X : Cx} {a b c : Expr} {ta tb tc : TE} {pos : Pos}
theorem fin_bl {pins : List (Addr × Obj)} {σ : St} {H : Hp} {s : Shared} {Q : VK} {k k' : Bool} (I : Inv X pins σ H s) (q : Q (.bl k) H) (e : k = k') : EP X pins σ Q (.bool k') s := by
  subst e
  exact ⟨.bl k, H, I, rfl, q⟩
theorem op_eq : OpR X (compareOp .Eq) rEq := by
  intro pins s σ H x y v u Q I rx ry h
  obtain ⟨hs, q⟩ := h
  cases x with
  | non =>
    cases rx
    cases y with
    | non => cases ry; exact PySem.EqNone.eq_none_none (fin_bl I q (by simp))
    | bl j => cases ry; exact PySem.EqNone.eq_none_bool (fin_bl I q (by simp))
    | int j => obtain ⟨t', rfl⟩ := ry; exact PySem.EqNone.eq_none_int (fin_bl I q (by simp))
    | str j => obtain ⟨t', rfl⟩ := ry; exact PySem.EqNone.eq_none_str (fin_bl I q (by simp))
    | _ => exact absurd (show false = true from hs) Bool.false_ne_true
  | bl i =>
    cases rx
    cases y with
    | non => cases ry; exact PySem.EqNone.eq_bool_none (fin_bl I q (by simp))
    | bl j => cases ry; exact eq_bool (fin_bl I q dec_bl)
    | str j => obtain ⟨t', rfl⟩ := ry; exact PySem.EqMixed.eq_bool_str (fin_bl I q (by simp))
    | _ => exact absurd (show false = true from hs) Bool.false_ne_true
  | int i =>
    obtain ⟨t, rfl⟩ := rx
    cases y with
    | non => cases ry; exact PySem.EqNone.eq_int_none (fin_bl I q (by simp))
    | int j => obtain ⟨t', rfl⟩ := ry; exact eq_int (fin_bl I q dec_int)
    | str j => obtain ⟨t', rfl⟩ := ry; exact PySem.EqMixed.eq_int_str (fin_bl I q (by simp))
    | _ => exact absurd (show false = true from hs) Bool.false_ne_true
  | str i =>
    obtain ⟨t, rfl⟩ := rx
    cases y with
    | non => cases ry; exact PySem.EqNone.eq_str_none (fin_bl I q (by simp))
    | bl j => cases ry; exact PySem.EqMixed.eq_str_bool (fin_bl I q (by simp))
    | int j => obtain ⟨t', rfl⟩ := ry; exact PySem.EqMixed.eq_str_int (fin_bl I q (by simp))
    | str j => obtain ⟨t', rfl⟩ := ry; exact eq_str (fin_bl I q dec_str)
    | _ => exact absurd (show false = true from hs) Bool.false_ne_true
  | byt i =>
    obtain ⟨t, rfl⟩ := rx
    cases y with
    | byt j => obtain ⟨t', rfl⟩ := ry; exact PySem.W.eq_bytes (fin_bl I q dec_byt)
    | _ => exact absurd (show false = true from hs) Bool.false_ne_true
  | _ => cases y <;> exact absurd (show false = true from hs) Bool.false_ne_true
theorem op_ne : OpR X (compareOp .NotEq) rNe := by
  intro pins s σ H x y v u Q I rx ry h
  obtain ⟨hs, q⟩ := h
  cases x with
  | non =>
    cases rx
    cases y with
    | non => cases ry; exact PySem.EqNone.ne_none_none (fin_bl I q (by simp))
    | bl j => cases ry; exact PySem.EqNone.ne_none_bool (fin_bl I q (by simp))
    | int j => obtain ⟨t', rfl⟩ := ry; exact PySem.EqNone.ne_none_int (fin_bl I q (by simp))
    | str j => obtain ⟨t', rfl⟩ := ry; exact PySem.EqNone.ne_none_str (fin_bl I q (by simp))
    | _ => exact absurd (show false = true from hs) Bool.false_ne_true
  | bl i =>
    cases rx
    cases y with
    | non => cases ry; exact PySem.EqNone.ne_bool_none (fin_bl I q (by simp))
    | bl j => cases ry; exact ne_bool (fin_bl I q (congrArg not dec_bl))
    | str j => obtain ⟨t', rfl⟩ := ry; exact PySem.EqMixed.ne_bool_str (fin_bl I q (by simp))
    | _ => exact absurd (show false = true from hs) Bool.false_ne_true
  | int i =>
    obtain ⟨t, rfl⟩ := rx
    cases y with
    | non => cases ry; exact PySem.EqNone.ne_int_none (fin_bl I q (by simp))
    | int j => obtain ⟨t', rfl⟩ := ry; exact ne_int (fin_bl I q (congrArg not dec_int))
    | str j => obtain ⟨t', rfl⟩ := ry; exact PySem.EqMixed.ne_int_str (fin_bl I q (by simp))
    | _ => exact absurd (show false = true from hs) Bool.false_ne_true
  | str i =>
    obtain ⟨t, rfl⟩ := rx
    cases y with
    | non => cases ry; exact PySem.EqNone.ne_str_none (fin_bl I q (by simp))
    | bl j => cases ry; exact PySem.EqMixed.ne_str_bool (fin_bl I q (by simp))
    | int j => obtain ⟨t', rfl⟩ := ry; exact PySem.EqMixed.ne_str_int (fin_bl I q (by simp))
    | str j => obtain ⟨t', rfl⟩ := ry; exact ne_str (fin_bl I q (congrArg not dec_str))
    | _ => exact absurd (show false = true from hs) Bool.false_ne_true
  | byt i =>
    obtain ⟨t, rfl⟩ := rx
    cases y with
    | byt j => obtain ⟨t', rfl⟩ := ry; exact PySem.W.ne_bytes (fin_bl I q (congrArg not dec_byt))
    | _ => exact absurd (show false = true from hs) Bool.false_ne_true
  | _ => cases y <;> exact absurd (show false = true from hs) Bool.false_ne_true
theorem op_lt : OpR X (compareOp .Lt) (rI0 fun i j => .bl (decide (i < j))) := opB0 fun _ _ _ _ _ _ _ q => lt_int q
theorem op_le : OpR X (compareOp .LtE) (rI0 fun i j => .bl (decide (i ≤ j))) := opB0 fun _ _ _ _ _ _ _ q => le_int q
theorem op_gt : OpR X (compareOp .Gt) (rI0 fun i j => .bl (decide (j < i))) := opB0 fun _ _ _ _ _ _ _ q => gt_int q
theorem op_ge : OpR X (compareOp .GtE) (rI0 fun i j => .bl (decide (j ≤ i))) := opB0 fun _ _ _ _ _ _ _ q => ge_int q
theorem OpR.or {f : Value → Value → Sem Value} {r r' : R2} (h : OpR X f r) (h' : OpR X f r') : OpR X f (fun x y H Q => r x y H Q ∨ r' x y H Q) := by
  intro pins s σ H x y v u Q I rx ry q
  rcases q with q | q
  · exact h pins s σ H x y v u Q I rx ry q
  · exact h' pins s σ H x y v u Q I rx ry q
theorem nomark (b : Expr) {op : CmpOp} (h : op ≠ .In := by decide) (h2 : op ≠ .NotIn := by decide) : behindInMarks op b = false := by
  have e1 : (op == CmpOp.In) = false := by cases op <;> first | rfl | exact absurd rfl h
  have e2 : (op == CmpOp.NotIn) = false := by cases op <;> first | rfl | exact absurd rfl h2
  cases b <;> simp [behindInMarks, e1, e2]
theorem pe_cmpR {op : CmpOp} {r : R2} (ho : OpR X (compareOp op) r) (ha : PE X a ta) (hb : PE X b tb) (hm : behindInMarks op b = false) : PE X (.Compare a [op] [b] pos) (tOp r ta tb) := by
  intro pins s σ H Q I h
  exact wpAny_Compare1 (binT ha hb I h fun v u s2 x y H2 I2 rx ry q => ho pins s2 σ H2 x y v u Q I2 rx ry q) hm
def tTest (t : TE) : TT := fun σ H Q => t σ H fun x H' => ∃ k, x = .bl k ∧ Q k H'
theorem pt_cmpR {op : CmpOp} {r : R2} (ho : OpR X (compareOp op) r) (ha : PE X a ta) (hb : PE X b tb) (hm : behindInMarks op b = false) : PT X (.Compare a [op] [b] pos) (tTest (tOp r ta tb)) := by
  intro pins s σ H Q I h
  refine wpAny_isTrue_Compare1 (thn (ha pins s σ H _ I h) fun v s1 ⟨x, H1, I1, r1, q1⟩ => thn (hb pins s1 σ H1 _ I1 q1) fun u s2 ⟨y, H2, I2, r2, q2⟩ =>
    thn (ho pins s2 σ H2 x y v u _ I2 r1 r2 q2) fun c s3 ⟨z, H3, I3, r3, k, e, q3⟩ => ?_) hm
  subst e
  cases r3
  exact wpAny_truthy_bool ⟨H3, I3, q3⟩
def tChain (r r' : R2) (ta tb tc : TE) : TE := fun σ H Q => ta σ H fun x H1 => tb σ H1 fun y H2 => r x y H2 fun z H3 => ∃ k, z = .bl k ∧
  (if k = true then tc σ H3 fun w' H4 => r' y w' H4 Q else Q (.bl false) H3)
theorem pe_chain {op op' : CmpOp} {r r' : R2} (ho : OpR X (compareOp op) r) (ho' : OpR X (compareOp op') r') (ha : PE X a ta) (hb : PE X b tb) (hc : PE X c tc)
    (hm : lastMarks [op, op'] [b, c] = false := by with_unfolding_all rfl) : PE X (.Compare a [op, op'] [b, c] pos) (tChain r r' ta tb tc) := by
  intro pins s σ H Q I h
  refine Compare_chain (thn (ha pins s σ H _ I h) fun v s1 ⟨x, H1, I1, r1, q1⟩ => chain_link (thn (hb pins s1 σ H1 _ I1 q1) fun u s2 ⟨y, H2, I2, r2, q2⟩ =>
    thn (ho pins s2 σ H2 x y v u _ I2 r1 r2 q2) fun d s3 ⟨z, H3, I3, r3, k, e, q3⟩ => ?_)) hm
  subst e
  cases r3
  refine wpAny_truthy_bool ?_
  cases k with
  | false => exact ite_ff ⟨.bl false, H3, I3, rfl, q3⟩
  | true => exact ite_tt (chain_last (thn (hc pins s3 σ H3 _ I3 q3) fun w' s4 ⟨z', H4, I4, r4, q4⟩ => ho' pins s4 σ H4 y z' u w' Q I4 r2 r4 q4))
theorem pt_chain {op op' : CmpOp} {r r' : R2} (ho : OpR X (compareOp op) r) (ho' : OpR X (compareOp op') r') (ha : PE X a ta) (hb : PE X b tb) (hc : PE X c tc)
    (hm : lastMarks [op, op'] [b, c] = false := by with_unfolding_all rfl) : PT X (.Compare a [op, op'] [b, c] pos) (tTest (tChain r r' ta tb tc)) := by
  intro pins s σ H Q I h
  refine isTrue_chain (thn (ha pins s σ H _ I h) fun v s1 ⟨x, H1, I1, r1, q1⟩ => test_link (thn (hb pins s1 σ H1 _ I1 q1) fun u s2 ⟨y, H2, I2, r2, q2⟩ =>
    thn (ho pins s2 σ H2 x y v u _ I2 r1 r2 q2) fun d s3 ⟨z, H3, I3, r3, k, e, q3⟩ => ?_)) hm
  subst e
  cases r3
  refine wpAny_truthy_bool ?_
  cases k with
  | false =>
    obtain ⟨k', e', q'⟩ := q3
    cases e'
    exact ite_ff ⟨H3, I3, q'⟩
  | true =>
    refine ite_tt (test_last (thn (hc pins s3 σ H3 _ I3 q3) fun w' s4 ⟨z', H4, I4, r4, q4⟩ => thn (ho' pins s4 σ H4 y z' u w' _ I4 r2 r4 q4) fun d' s5 ⟨z2, H5, I5, r5, k2, e2, q5⟩ => ?_))
    subst e2
    cases r5
    exact wpAny_truthy_bool ⟨H5, I5, q5⟩
theorem line63 : (sizeLine : Nat) < 2 ^ 63 := by rw [sizeLine_eq]; decide
theorem vals1 {x : V} {us : List Value} (r : Vals [x] us) : ∃ u, us = [u] ∧ RelV x u := by
  cases r with
  | cons r1 r2 => cases r2; exact ⟨_, rfl, r1⟩
theorem vals2 {x y : V} {us : List Value} (r : Vals [x, y] us) : ∃ u w', us = [u, w'] ∧ RelV x u ∧ RelV y w' := by
  cases r with
  | cons r1 r2 =>
    cases r2 with
    | cons r3 r4 => cases r4; exact ⟨_, _, rfl, r1, r3⟩
theorem call_abs : CallR X (.builtin "abs") (fun xs H Q => ∃ i, xs = [.int i] ∧ Q (.int (if i < 0 then -i else i)) H) := by
  intro pins s σ H xs us Q I r h
  obtain ⟨i, rfl, q⟩ := h
  obtain ⟨u, rfl, t, rfl⟩ := vals1 r
  exact call_abs_int fun u tk => ⟨.int (if i < 0 then -i else i), H, I.tok _, ⟨_, rfl⟩, q⟩
theorem call_max2 (hc : X.calm = true) : CallR X (.builtin "max") (fun xs H Q => ∃ i j, xs = [.int i, .int j] ∧ Q (.int (if j > i then j else i)) H) := by
  intro pins s σ H xs us Q I r h
  obtain ⟨i, j, rfl, q⟩ := h
  obtain ⟨u, w', rfl, ⟨t, rfl⟩, ⟨t', rfl⟩⟩ := vals2 r
  refine max_two_ints (I.ok.hd hc) fun h' tk k => ⟨_, H, I.kept k, ?_, q⟩
  by_cases hj : j > i
  · rw [if_pos hj, if_pos hj]; exact ⟨_, rfl⟩
  · rw [if_neg hj, if_neg hj]; exact ⟨_, rfl⟩
theorem call_int1 : CallR X (.type "int") (fun xs H Q => (∃ i, xs = [.int i] ∧ Q (.int i) H) ∨ ∃ k, xs = [.bl k] ∧ Q (.int (if k then 1 else 0)) H) := by
  intro pins s σ H xs us Q I r h
  rcases h with ⟨i, rfl, q⟩ | ⟨k, rfl, q⟩
  · obtain ⟨u, rfl, t, rfl⟩ := vals1 r
    exact call_int_int ⟨.int i, H, I, ⟨_, rfl⟩, q⟩
  · obtain ⟨u, rfl, r1⟩ := vals1 r
    cases r1
    exact call_int_bool ⟨.int (if k then 1 else 0), H, I.tok _, ⟨_, rfl⟩, q⟩
end
end L2
namespace L2
open PySem PySem.Spec PyProof.Rows
structure ObjM (h : Heap) (x dx C : Addr) (mA : Str → Option Value) : Prop where
  obj : h.get? x = some (PySem.W.instObj C dx)
  ns : h.Ns1 dx mA
  ne : dx ≠ x
theorem lookIn_ns {h : Heap} {dx : Addr} {mA : Str → Option Value} (n : h.Ns1 dx mA) : ∃ od, h.get? dx = some od ∧ ∀ name, PySem.W.lookIn name od = some (mA name) := by
  obtain ⟨o, es, ep, ho, hd, hk, _, hm⟩ := n
  refine ⟨o, ho, fun name => ?_⟩
  have e := hm name
  unfold nsFind findBy at e
  rw [← Array.find?_toList] at e
  unfold PySem.W.lookIn
  rw [hd]
  dsimp only
  split
  · rename_i y q
    rw [q] at e
    exact congrArg some e
  · rename_i q
    rw [q] at e
    have a : es.toList.any (·.refKey) = false := by
      rw [List.any_eq_false]
      intro y hy
      obtain ⟨z, t, hkey⟩ := hk y (Array.mem_toList_iff.mp hy)
      simp [DictEntry.refKey, hkey]
    have a' : ¬ es.toList.any (·.refKey) = true := by rw [a]; exact Bool.false_ne_true
    rw [if_neg a']
    exact congrArg some e
theorem ObjM.look {h : Heap} {x dx C : Addr} {mA : Str → Option Value} (I : ObjM h x dx C mA) : ∃ od, PySem.W.InstAt h x (PySem.W.instObj C dx) C (some od) ∧ ∀ name, PySem.W.lookIn name od = some (mA name) :=
  let ⟨od, ho, hl⟩ := lookIn_ns I.ns
  ⟨od, ⟨I.obj, rfl, rfl, ho⟩, hl⟩
section
variable {prog : Program} {w : World} {A : Around} {E : Value → Shared → Prop} {s : Shared} {K : PySem.W.Frag} {x dx C f : Addr} {mA : Str → Option Value} {name : Str} {v : Value}
end
theorem RelO.some_of {v : V} {o : Option Value} (r : RelO (some v) o) : ∃ u, o = some u ∧ RelV v u := by
  cases o with
  | none => exact (show False from r).elim
  | some u => exact ⟨u, rfl, r⟩
section
variable {P : Program} {w : World} {H H' : Hp} {h h' : Heap} {a C dx : Addr} {fs fs' : List (Str × V)}
theorem ins_get (hok : HOk P w H h) (e : H a = some (.ins C dx fs)) : ∃ mA, ObjM h a dx C mA ∧ (∀ f, RelO (fs.lookup f) (mA f)) ∧ PySem.Within mA (fs.map (·.1)) ∧ fs.length ≤ 1000 ∧ H dx = some (.own a) := by
  obtain ⟨d, z, ne, ob, mA, n, r, q⟩ := (show ObjOk P w H h a (.ins C dx fs) from hok a _ e)
  exact ⟨mA, ⟨ob, n, ne⟩, r, q, z, d⟩
end
structure Cls (K : PySem.W.Frag) (C : Addr) : Prop where
  pg : PySem.W.plainGet K C Str.empty = true
  hd : PySem.W.hasDictIn K C = true
  po : PySem.W.plainOver K C = true
  sa : PySem.W.findIn K (.ref C) "__setattr__" = some (some (.builtin "object.__setattr__"))
theorem Cls.get {K : PySem.W.Frag} {C : Addr} (c : Cls K C) (f : Str) : PySem.W.plainGet K C f = true := c.pg
structure Con (K : PySem.W.Frag) (C : Addr) (f : Str) (v : V) (u : Value) : Prop where
  at_ : PySem.W.findIn K (.ref C) f = some (some u)
  rel : RelV v u
  get : PySem.W.specialIn K u "__get__" = some none
  cp : PySem.W.copiedNames.contains f = false
structure Meth (K : PySem.W.Frag) (C : Addr) (m : Str) (f : Addr) : Prop where
  at_ : PySem.W.findIn K (.ref C) m = some (some (.ref f))
  fn : PySem.W.isFn K (.ref f) = true
  kp : PySem.W.keepIn K (.ref f) = true
section
variable {X : Cx} {pins : List (Addr × Obj)} {σ : St} {H : Hp} {s : Shared} {a C dx : Addr} {fs : List (Str × V)} {f : Str} {v : V} {A : Around} {E : Value → Shared → Prop}
theorem Inv.made (I : Inv X pins σ H s) : Inv X pins σ (upd (upd H s.heap.objs.size (.own (s.heap.objs.size + 1))) (s.heap.objs.size + 1) (.ins C s.heap.objs.size []))
    { s with heap := (s.heap.push PySem.W.emptyDict).push (PySem.W.instObj C s.heap.objs.size) } := by
  have e1 : (s.heap.push PySem.W.emptyDict).get? s.heap.objs.size = some PySem.W.emptyDict := Heap.get?_push_size s.heap rfl
  have e2 : ((s.heap.push PySem.W.emptyDict).push (PySem.W.instObj C s.heap.objs.size)).get? (s.heap.objs.size + 1) = some (PySem.W.instObj C s.heap.objs.size) := by
    have := Heap.get?_push_size (s.heap.push PySem.W.emptyDict) (o := PySem.W.instObj C s.heap.objs.size) rfl
    rwa [Heap.size_push] at this
  have e3 : (s.heap.push PySem.W.emptyDict).Ns s.heap.objs.size (fun _ => none) := ⟨PySem.W.emptyDict, #[], _, e1, rfl, (fun e he => absurd he (by simp)), fun _ => rfl⟩
  have I1 := I.laid (a := s.heap.objs.size) (o := .own (s.heap.objs.size + 1)) (h' := s.heap.push PySem.W.emptyDict) (t' := s.toks) (fun b u q => Heap.get?_push_of_some _ q) (Nat.le_refl _) ⟨_, e1⟩
  refine I1.laid (a := s.heap.objs.size + 1) (o := .ins C s.heap.objs.size []) (t' := s.toks) (fun b u q => Heap.get?_push_of_some _ q) (Nat.le_of_eq (Heap.size_push _ _)) ?_
  have ne : s.heap.objs.size ≠ s.heap.objs.size + 1 := Nat.ne_of_lt (Nat.lt_succ_self _)
  refine ⟨by rw [upd_ne ne, upd_same], Nat.zero_le _, ne, e2, fun _ => none, (Heap.Ns1.of_empty e3).at fun o q => Heap.get?_push_of_some _ q, fun _ => True.intro, fun y hy => absurd rfl hy⟩
end
section
variable {X : Cx} {o e value : Expr} {f : Str} {pos pos' tpos : Pos} {ta tv : TE}
end
section
variable {X : Cx} {pins : List (Addr × Obj)} {σ : St} {H : Hp} {s : Shared} {A : Around} {E : Value → Shared → Prop} {Q : Value → Shared → Prop} {c : Value} {b : Bool}
inductive TyOf (K : PySem.W.Frag) (H : Hp) : V → Value → Prop where
  | non : TyOf K H .non (.type "NoneType")
  | bl (x : Bool) : TyOf K H (.bl x) (.type "bool")
  | int (i : Int) : TyOf K H (.int i) (.type "int")
  | str (x : Str) : TyOf K H (.str x) (.type "str")
  | flt (x : UInt64) : TyOf K H (.flt x) (.type "float")
  | lst {a : Addr} {xs : List V} (e : H a = some (.lst xs)) : TyOf K H (.ref a) (.type "list")
  | frz {a : Addr} {o : Obj} {xs : List V} (e : H a = some (.frz o (.lst xs))) : TyOf K H (.ref a) (.type "list")
  | tup {a : Addr} {xs : List V} (e : H a = some (.tup xs)) : TyOf K H (.ref a) (.type "tuple")
  | dK {a : Addr} {kvs : List (Key × V)} (e : H a = some (.dK kvs)) : TyOf K H (.ref a) (.type "dict")
  | dT {a : Addr} {kvs : List (List Key × V)} (e : H a = some (.dT kvs)) : TyOf K H (.ref a) (.type "dict")
  | ins {a C dx : Addr} {fs : List (Str × V)} (e : H a = some (.ins C dx fs)) (cl : Cls K C) (ha : PySem.W.findIn K (.ref C) "__class__" = some (some (.builtin "object.__class__")))
      (hn : PySem.W.specialIn K (.builtin "object.__class__") "__get__" = some (some (.builtin "getset_descriptor.__get__"))) (htk : PySem.W.takesIn K (.builtin "object.__class__") = some true)
      (hm : PySem.W.mroIn K C (.type "object") = some true) : TyOf K H (.ref a) (.ref C)
theorem isinst_ok {x : V} {u t : Value} (I : Inv X pins σ H s) (rx : RelV x u) (ty : TyOf X.K H x t) (e : PySem.W.kitOne X.K t c = some b) (h : ∀ tk, Q (.bool b) { s with toks := tk }) :
    wpAny (model X.prog X.w) A (call (.builtin "isinstance") [u, c]) Q E s := by
  cases ty with
  | non => cases (show u = Value.none from rx); exact PySem.W.kia_one PySem.W.kitx_none I.kIn True.intro e (fun z => nomatch z) h
  | bl y => cases (show u = Value.bool y from rx); exact PySem.W.kia_one PySem.W.kitx_bool I.kIn True.intro e (fun z => nomatch z) h
  | int i => obtain ⟨t, q⟩ := (show ∃ t, u = Value.int i t from rx); cases q; exact PySem.W.kia_one PySem.W.kitx_int I.kIn True.intro e (fun z => nomatch z) h
  | str y => obtain ⟨t, q⟩ := (show ∃ t, u = Value.str y t from rx); cases q; exact PySem.W.kia_one PySem.W.kitx_str I.kIn True.intro e (fun z => nomatch z) h
  | flt y => obtain ⟨t, q⟩ := (show ∃ t, u = Value.float y t from rx); cases q; exact PySem.W.kia_one PySem.W.kitx_float I.kIn True.intro e (fun z => nomatch z) h
  | @lst a xs ea =>
    cases (show u = Value.ref a from rx)
    obtain ⟨_, _, n, _, h1⟩ := (show ObjOk X.prog X.w H s.heap a (.lst xs) from I.hok a _ ea)
    exact PySem.W.kia_one PySem.W.kitx_list I.kIn ⟨_, h1, rfl⟩ e (fun z => nomatch z) h
  | @frz a ob xs ea =>
    cases (show u = Value.ref a from rx)
    obtain ⟨_, _, _, n, _, h1⟩ := (show ObjOk X.prog X.w H s.heap a (.frz ob (.lst xs)) from I.hok a _ ea)
    exact PySem.W.kia_one PySem.W.kitx_list I.kIn ⟨_, h1, rfl⟩ e (fun z => nomatch z) h
  | @tup a xs ea =>
    cases (show u = Value.ref a from rx)
    obtain ⟨_, _, _, p⟩ := (show ObjOk X.prog X.w H s.heap a (.tup xs) from I.hok a _ ea)
    obtain ⟨o, h1, h2, _⟩ := p
    exact PySem.W.kia_one PySem.W.kitx_tuple I.kIn ⟨o, h1, h2⟩ e (fun z => nomatch z) h
  | @dK a kvs ea =>
    cases (show u = Value.ref a from rx)
    obtain ⟨_, _, vs, _, p⟩ := (show ObjOk X.prog X.w H s.heap a (.dK kvs) from I.hok a _ ea)
    obtain ⟨o, es, ep, h1, h2, _⟩ := p
    exact PySem.W.kia_one PySem.W.kitx_dict I.kIn ⟨o, h1, h2.1⟩ e (fun z => nomatch z) h
  | @dT a kvs ea =>
    cases (show u = Value.ref a from rx)
    obtain ⟨_, _, xs, _, o, es, ep, h1, h2, _⟩ := (show ObjOk X.prog X.w H s.heap a (.dT kvs) from I.hok a _ ea)
    exact PySem.W.kia_one PySem.W.kitx_dict I.kIn ⟨o, h1, h2.1⟩ e (fun z => nomatch z) h
  | @ins a C dx fs ea cl ha hn htk hm =>
    cases (show u = Value.ref a from rx)
    obtain ⟨mA, O, _⟩ := ins_get I.hok ea
    obtain ⟨od, J, _⟩ := O.look
    exact PySem.W.kia_one (PySem.W.kitx_own (cl.get _) cl.hd ha hn htk hm) I.kIn J e (fun z => nomatch z) h
end
end L2
namespace L2
open PySem PySem.Spec PyProof.Rows
structure Room (k : Nat) (A : Around) : Prop where
  hd : A.handled = none
  dp : A.depth + 3 * k + 5 < recursionLimit
  un : A.units + 16 * k + 200 < cLine
theorem Room.mono {j k : Nat} {A : Around} (r : Room k A) (h : j ≤ k) : Room j A := ⟨r.hd, by have := r.dp; omega, by have := r.un; omega⟩
theorem Room.deeper {k : Nat} {A : Around} (r : Room (k + 1) A) (env : Env) : Room k (A.deeper env) :=
  ⟨r.hd, by have := r.dp; show A.depth + 1 + 3 * k + 5 < _; omega, by have := r.un; show A.units + 3 + 16 * k + 200 < _; omega⟩
theorem Room.in1 {k : Nat} {A : Around} (r : Room (k + 1) A) : Room k A.in1 :=
  ⟨r.hd, by have := r.dp; show A.depth + 3 * k + 5 < _; omega, by have := r.un; show A.units + 1 + 16 * k + 200 < _; omega⟩
theorem Room.depth {k : Nat} {A : Around} (r : Room k A) : A.depth < recursionLimit := by have := r.dp; omega
theorem Room.units {k : Nat} {A : Around} (r : Room k A) : A.units + 64 < cLine := by have := r.un; omega
def tNil : TA := fun _ H Q => Q [] H
def tCons (ta : TE) (tr : TA) : TA := fun σ H Q => ta σ H fun x H1 => tr σ H1 fun xs H2 => Q (x :: xs) H2
section
variable {X : Cx} {e : Expr} {es : List Expr} {te : TE} {t : TA} {pos : Pos}
theorem pa_nil : PA X [] tNil := fun _ _ _ _ H Q I h => Calls.spliced_nil ⟨[], H, I, .nil, h⟩
theorem pa_cons (ha : PE X e te) (hr : PA X es t) (hs : starEach (e :: es) X.env = (false, eval e X.env) :: starEach es X.env := by rfl) : PA X (e :: es) (tCons te t) := by
  intro pos pins s σ H Q I h
  rw [hs]
  show wpAny _ _ (spliced ((false, eval e X.env) :: backTo pos (starEach es X.env))) _ _ s
  refine Calls.spliced_cons (thn (ha pins s σ H _ I h) fun u s1 ⟨x, H1, I1, r1, q1⟩ => ?_)
  exact thn (hr pos pins s1 σ H1 _ I1 q1) fun us s2 ⟨xs, H2, I2, r2, q2⟩ => ⟨x :: xs, H2, I2, .cons r1 r2, q2⟩
def tTup (t : TA) : TE := fun σ H Q => t σ H fun xs H1 => xs.length ≤ sizeLine ∧ ∀ p, H1 p = none → Q (.ref p) (upd H1 p (.tup xs))
def tLst (t : TA) : TE := fun σ H Q => t σ H fun xs H1 => xs.length ≤ sizeLine ∧ ∀ p, H1 p = none → Q (.ref p) (upd H1 p (.lst xs))
theorem pe_tup {x1} (h : PA X es t) : PE X (.Tuple es x1 pos) (tTup t) := by
  intro pins s σ H Q I hq
  refine wpAny_Tuple_spliced (thn (h pos pins s σ H _ I hq) fun us s1 ⟨xs, H1, I1, r, z, q⟩ => ⟨by rw [← r.length]; exact z, ?_⟩)
  have hf : H1 s1.heap.objs.size = none := I1.hok.fresh (Nat.le_refl _)
  refine ⟨.ref s1.heap.objs.size, upd H1 s1.heap.objs.size (.tup xs), I1.laid (t' := s1.toks) (fun b u e => Heap.get?_push_of_some _ e) (Nat.le_refl _) ?_, rfl, q _ hf⟩
  exact ⟨z, us, r, ⟨_, Heap.get?_push_size _ rfl, rfl, _, rfl⟩⟩
theorem pe_lst (h : PA X es t) : PE X (.List es pos) (tLst t) := by
  intro pins s σ H Q I hq
  refine wpAny_List_spliced (thn (h pos pins s σ H _ I hq) fun us s1 ⟨xs, H1, I1, r, z, q⟩ => ⟨by rw [← r.length]; exact z, ?_⟩)
  have hf : H1 s1.heap.objs.size = none := I1.hok.fresh (Nat.le_refl _)
  refine ⟨.ref s1.heap.objs.size, upd H1 s1.heap.objs.size (.lst xs), I1.laid (t' := s1.toks) (fun b u e => Heap.get?_push_of_some _ e) (Nat.le_refl _) ?_, rfl, q _ hf⟩
  exact ⟨z, us, 0, r, Heap.get?_push_size _ rfl⟩
end
abbrev Sp := List V → Hp → VK → XK → Prop
abbrev CXT := List Env → Hp → Shared → XK → Value → Shared → Prop
structure Env0 (P : Program) (w : World) (K : PySem.W.Frag) (mg : Str → Option Value) (base : Heap) (A : Around) (outer : List Env) (s : Shared) (H : Hp) : Prop where
  frames : A.frames = some outer
  mod : Mod K mg base
  bs : ∀ b o, base.get? b = some o → s.heap.get? b = some o ∧ H b = none
  bsz : base.objs.size ≤ s.heap.objs.size
  funs : s.heap.FunFrames base outer
  frf : ∀ b ∈ frs outer, H b = none
  hok : HOk P w H s.heap
  bare : AllBare s.gens
def CE (outer : List Env) (P : Program) (w : World) (H : Hp) (s : Shared) (Q : VK) (u : Value) (s' : Shared) : Prop :=
  ∃ v H', s'.os = s.os ∧ AllBare s'.gens ∧ Un (frs outer) [] H H' s.heap s'.heap ∧ HOk P w H' s'.heap ∧ RelV v u ∧ Q v H'
def CR (CX : CXT) (outer : List Env) (P : Program) (w : World) (H : Hp) (s : Shared) (Q : VK) (E : XK) (r : Result) (s' : Shared) : Prop :=
  match r with
  | .ok (.ret u) => CE outer P w H s Q u s'
  | .ok _ => False
  | .error e => CX outer H s E e s'
structure FnOk (P : Program) (w : World) (K : PySem.W.Frag) (mg : Str → Option Value) (base : Heap) (CX : CXT) (k : Nat) (f : Addr) (fd : FuncData) (ps : List Str) (sp : Sp) : Prop where
  len : ∀ vs H Q E, sp vs H Q E → vs.length = ps.length
  run : ∀ (A : Around) (outer : List Env) (s : Shared) (H : Hp) (args : Args) (us : List Value) (vs : List V) (Q : VK) (E : XK), Room k A → Env0 P w K mg base A outer s H → BindsTo s fd args (ps.zip us) → Vals vs us → sp vs H Q E →
    codeAny (model P w) A (.call (.ref f) args) (CR CX outer P w H s Q E) s
theorem FnOk.mono {P : Program} {w : World} {K : PySem.W.Frag} {mg : Str → Option Value} {base : Heap} {CX : CXT} {j k : Nat} {f : Addr} {fd : FuncData} {ps : List Str} {sp : Sp} (F : FnOk P w K mg base CX j f fd ps sp) (h : j ≤ k) :
    FnOk P w K mg base CX k f fd ps sp := ⟨F.len, fun A outer s H args us vs Q E hr => F.run A outer s H args us vs Q E (hr.mono h)⟩
theorem FnOk.imp {P : Program} {w : World} {K : PySem.W.Frag} {mg : Str → Option Value} {base : Heap} {CX : CXT} {k : Nat} {f : Addr} {fd : FuncData} {ps : List Str} {sp sp' : Sp} (F : FnOk P w K mg base CX k f fd ps sp)
    (h : ∀ vs H Q E, sp' vs H Q E → sp vs H Q E) : FnOk P w K mg base CX k f fd ps sp' :=
  ⟨fun vs H Q E q => F.len vs H Q E (h _ _ _ _ q), fun A outer s H args us vs Q E hr he hb hv hs => F.run A outer s H args us vs Q E hr he hb hv (h _ _ _ _ hs)⟩
theorem Env0.in1 {P : Program} {w : World} {K : PySem.W.Frag} {mg : Str → Option Value} {base : Heap} {A : Around} {outer : List Env} {s : Shared} {H : Hp} (e : Env0 P w K mg base A outer s H) :
    Env0 P w K mg base A.in1 outer s H := ⟨e.frames, e.mod, e.bs, e.bsz, e.funs, e.frf, e.hok, e.bare⟩
section
variable {X : Cx} {pins : List (Addr × Obj)} {σ : St} {H : Hp} {s s' : Shared}
theorem Inv.env0 (I : Inv X pins σ H s) : Env0 X.prog X.w X.K X.mg X.base X.A X.stack s H :=
  ⟨I.ok.frames, I.ok.mod, I.bs, Nat.le_trans I.ok.bsz I.sz, I.stack, I.stkFree, I.hok, I.bare⟩
theorem Inv.after {Q : VK} {u : Value} (I : Inv X pins σ H s) (h : CE X.stack X.prog X.w H s Q u s') : EP X pins σ Q u s' := by
  obtain ⟨v, H', os, bare, un, hok, r, q⟩ := h
  obtain ⟨hh, g, d, t, os'⟩ := s'
  obtain rfl : os' = s.os := os
  exact ⟨v, H', I.call (h' := hh) (g' := g) (d' := d) (t' := t) (ch := []) un hok bare (fun b z => absurd z (by simp)), r, q⟩
end
def tCall (sp : Sp) (dvs : List V) (E : XK) (t : TA) : TE := fun σ H Q => t σ H fun vs H1 => sp (vs ++ dvs) H1 Q E
def Binds (K : PySem.W.Frag) (fd : FuncData) (ps : List Str) (ds : List Value) : Prop :=
  ∀ (s : Shared) (us : List Value), K.In s.heap → (us ++ ds).length = ps.length → BindsTo s fd ⟨us, []⟩ (ps.zip (us ++ ds))
theorem Binds.all {K : PySem.W.Frag} {fd : FuncData} {ps : List Str} (h : ∀ us : List Value, us.length = ps.length → bindArgs fd ⟨us, []⟩ = pure (ps.zip us)) : Binds K fd ps [] := fun s us _ hl => by
  rw [List.append_nil] at hl ⊢
  exact .of_eq (h us hl)
def Passes (CX : CXT) (X : Cx) (E : XK) : Prop := ∀ (pins : List (Addr × Obj)) (σ : St) (H : Hp) (s : Shared) (e : Value) (s' : Shared), Inv X pins σ H s → CX X.stack H s E e s' → X.xe e s'
section
variable {X : Cx} {CX : CXT} {k : Nat} {f C : Addr} {fd : FuncData} {ps : List Str} {sp : Sp} {dvs : List V} {ds : List Value} {E : XK} {x m : Str} {p pos apos : Pos} {e o : Expr} {es : List Expr} {ta : TE} {t : TA}
theorem run_fn {pins : List (Addr × Obj)} {σ : St} {H : Hp} {s : Shared} {Q : VK} {us : List Value} {vs : List V} (F : FnOk X.prog X.w X.K X.mg X.base CX k f fd ps sp) (hr : Room k X.A) (hb : Binds X.K fd ps ds) (hd : Vals dvs ds) (hx : Passes CX X E)
    (I : Inv X pins σ H s) (r : Vals vs us) (h : sp (vs ++ dvs) H Q E) : wpAny (model X.prog X.w) X.A (call (.ref f) us) (EP X pins σ Q) X.xe s := by
  have r2 : Vals (vs ++ dvs) (us ++ ds) := r.append hd
  have hl : (us ++ ds).length = ps.length := by rw [← r2.length]; exact F.len _ _ _ _ h
  refine wpAny_call (codeAny_mono (F.run X.A X.stack s H ⟨us, []⟩ (us ++ ds) (vs ++ dvs) Q E hr I.env0 (hb s us I.kIn hl) r2 h) fun r s' hq => ?_)
  cases r with
  | error e => exact hx pins σ H s e s' I hq
  | ok fl =>
    cases fl with
    | ret u => exact I.after hq
    | next => exact False.elim hq
    | brk => exact False.elim hq
    | cont => exact False.elim hq
theorem pe_call (F : FnOk X.prog X.w X.K X.mg X.base CX k f fd ps sp) (hr : Room k X.A) (hg : Gl X x) (hm : X.mg x = some (.ref f)) (hk : PySem.W.keepIn X.K (.ref f) = true) (hb : Binds X.K fd ps ds) (hd : Vals dvs ds) (hx : Passes CX X E)
    (ha : PA X (e :: es) t) (hdb : (x == ("__debug__" : Str)) = false := by decide) (he : starEach (e :: es) X.env = (false, eval e X.env) :: starEach es X.env := by rfl) (hpl : (backTo pos (starEach es X.env)).any (·.1) = false := by rfl) :
    PE X (.Call (.Name x p) (e :: es) [] pos) (tCall sp dvs E t) := by
  intro pins s σ H Q I h
  refine wpAny_Call_Name_kw (ld_glob I hg hm ?_ hdb)
  refine PySem.W.callWith_K (h₀ := X.base) I.ok.mod.kin hk (thn (ha pos pins s σ H _ I h) fun us s1 ⟨vs, H1, I1, r, q⟩ => ⟨I1.kIn, ?_⟩) he hpl
  exact run_fn F hr hb hd hx I1 r q
structure Mk (K : PySem.W.Frag) (C f : Addr) : Prop where
  makes : PySem.W.makesIn K C = true
  init : PySem.W.findIn K (.ref C) "__init__" = some (some (.ref f))
  fn : PySem.W.isFn K (.ref f) = true
  kp : PySem.W.keepIn K (.ref C) = true
end
section
variable {X : Cx} {CX : CXT} {k : Nat} {f C : Addr} {fd : FuncData} {ps ks : List Str} {sp : Sp} {E : XK} {x m : Str} {p pos apos kpos : Pos} {e o : Expr} {es : List Expr} {kws : List Keyword} {te ta : TE} {t tk : TA} {nm : Option Str}
structure KBinds (K : PySem.W.Frag) (fd : FuncData) (ps ks : List Str) (g : List Value → List Value → List Value) (gV : List V → List V → List V) : Prop where
  to : ∀ (s : Shared) (us ws : List Value), K.In s.heap → (g us ws).length = ps.length → BindsTo s fd ⟨us, ks.zip ws⟩ (ps.zip (g us ws))
  rel : ∀ {vs : List V} {us : List Value} {zs : List V} {ws : List Value}, Vals vs us → Vals zs ws → Vals (gV vs zs) (g us ws)
variable {g : List Value → List Value → List Value} {gV : List V → List V → List V}
end
structure FnScope (N P : List Str) (sc : Scope) : Prop where
  kind : sc.kind = .function
  co : sc.isCoroutine = false
  gen : sc.isGenerator = false
  nd : N.Nodup
  pre : N.take P.length = P
  par : ∀ x ∈ P, sc.names.lookup x = some .local ∨ sc.names.lookup x = some .cell
  nofree : ∀ y ∈ sc.names, y.2 ≠ .free
theorem bindL_out {kindOf : Str → Option NameKind} {x : Str} : ∀ {binds : List (Str × Value)} {m : Str → Option Value}, (∀ v, (x, v) ∉ binds) → bindL kindOf binds m x = m x
  | [], _, _ => rfl
  | (n, v) :: r, m, h => by
    unfold bindL
    rw [bindL_out fun w hw => h w (List.mem_cons_of_mem _ hw)]
    split
    · have : x ≠ n := by rintro rfl; exact h v List.mem_cons_self
      simp [this]
    · rfl
theorem bindC_out {kindOf : Str → Option NameKind} {x : Str} : ∀ {binds : List (Str × Value)} {m : Str → Option Value}, (∀ v, (x, v) ∉ binds) → bindC kindOf binds m x = m x
  | [], _, _ => rfl
  | (n, v) :: r, m, h => by
    unfold bindC
    rw [bindC_out fun w hw => h w (List.mem_cons_of_mem _ hw)]
    split
    · rfl
    · have : x ≠ n := by rintro rfl; exact h v List.mem_cons_self
      simp [this]
theorem bindL_get {kindOf : Str → Option NameKind} {x : Str} {v : Value} : ∀ {P : List Str} {vs : List Value} {i : Nat} {m : Str → Option Value}, P.Nodup → P[i]? = some x → vs[i]? = some v → kindOf x = some .local →
    bindL kindOf (P.zip vs) m x = some v
  | [], _, _, _, _, h, _, _ => by simp at h
  | _ :: _, [], _, _, _, _, h, _ => by simp at h
  | p :: P, w :: vs, 0, m, nd, h1, h2, hk => by
    simp at h1 h2; subst h1; subst h2
    show bindL kindOf ((p, w) :: P.zip vs) m p = _
    unfold bindL
    rw [bindL_out fun v hv => (List.nodup_cons.mp nd).1 (List.of_mem_zip hv).1, if_pos hk]
    simp
  | p :: P, w :: vs, i + 1, m, nd, h1, h2, hk => by
    show bindL kindOf ((p, w) :: P.zip vs) m x = _
    unfold bindL
    exact bindL_get (i := i) (List.nodup_cons.mp nd).2 (by simpa using h1) (by simpa using h2) hk
theorem bindC_get {kindOf : Str → Option NameKind} {x : Str} {v : Value} : ∀ {P : List Str} {vs : List Value} {i : Nat} {m : Str → Option Value}, P.Nodup → P[i]? = some x → vs[i]? = some v → kindOf x ≠ some .local →
    bindC kindOf (P.zip vs) m x = some v
  | [], _, _, _, _, h, _, _ => by simp at h
  | _ :: _, [], _, _, _, _, h, _ => by simp at h
  | p :: P, w :: vs, 0, m, nd, h1, h2, hk => by
    simp at h1 h2; subst h1; subst h2
    show bindC kindOf ((p, w) :: P.zip vs) m p = _
    unfold bindC
    rw [bindC_out fun v hv => (List.nodup_cons.mp nd).1 (List.of_mem_zip hv).1, if_neg hk]
    simp
  | p :: P, w :: vs, i + 1, m, nd, h1, h2, hk => by
    show bindC kindOf ((p, w) :: P.zip vs) m x = _
    unfold bindC
    exact bindC_get (i := i) (List.nodup_cons.mp nd).2 (by simpa using h1) (by simpa using h2) hk
def start (N : List Str) (vs : List V) : St := vs.map some ++ List.replicate (N.length - vs.length) none
def cxOf (CX : CXT) (P : Program) (w : World) (K : PySem.W.Frag) (mg : Str → Option Value) (base : Heap) (N : List Str) (qual : Str) (scope : Scope) (f : Addr) (cd : Value) (A : Around) (outer : List Env) (s : Shared) (H : Hp) (E : XK) : Cx where
  prog := P
  w := w
  K := K
  mg := mg
  base := base
  A := A.deeper (envOfC qual scope s.heap.objs.size f cd)
  N := N
  s₀ := s
  H₀ := H
  env := envOfC qual scope s.heap.objs.size f cd
  outer := outer
  stack := envOfC qual scope s.heap.objs.size f cd :: outer
  ex := []
  calm := true
  fn := fun _ => true
  pn := []
  xe := fun e s' => wpAny (model P w) (A.deeper (envOfC qual scope s.heap.objs.size f cd)) (leaving (envOfC qual scope s.heap.objs.size f cd) e) (fun _ s'' => CX outer H s E e s'') (fun e' s'' => CX outer H s E e' s'') s'
theorem cell_has {sc : Scope} {n : Nat} {x : Str} (h : sc.names.lookup x = some .cell) : ∃ c, (cellsFrom n sc.names []).lookup x = some c := by
  have q := PySem.W.cellsFrom_some sc.names n [] (.inl h)
  exact Option.isSome_iff_exists.mp q
theorem inv_start {CX : CXT} {P : Program} {w : World} {K : PySem.W.Frag} {mg : Str → Option Value} {base : Heap} {N ps : List Str} {qual : Str} {scope : Scope} {f : Addr} {cd : Value} {A : Around} {outer : List Env} {s s1 : Shared} {H : Hp} {E : XK} {us : List Value} {vs : List V}
    (S : FnScope N ps scope) (hd : A.handled = none) (e0 : Env0 P w K mg base A outer s H) (hl : vs.length = ps.length) (r : Vals vs us)
    (x : InCallC s s.heap.objs.size (bindL (envOfC qual scope s.heap.objs.size f cd).kindOf (ps.zip us) fun _ => none) (cellsFrom (s.heap.objs.size + 1) scope.names []) (bindC (envOfC qual scope s.heap.objs.size f cd).kindOf (ps.zip us) fun _ => none) s1) :
    Inv (cxOf CX P w K mg base N qual scope f cd A outer s H E) [] (start N vs) H s1 := by
  have hpl : ps.length ≤ N.length := by have := congrArg List.length S.pre; rw [List.length_take] at this; omega
  obtain ⟨h1, tk, rfl, hk⟩ := x.done
  have noA : ∀ b : Addr, b ∉ (cxOf CX P w K mg base N qual scope f cd A outer s H E).ex := fun b z => absurd (show b ∈ ([] : List Addr) from z) (by simp)
  refine ⟨⟨e0.mod, S.kind, rfl, rfl, Nat.le_refl _, fun y z c h1 h2 => ?_, fun y hy => ?_, fun y c _ h => ?_, fun _ => hd, Around.frames_deeper e0.frames, .inr ⟨rfl, rfl⟩, fun b z => absurd z (noA b), e0.bs, e0.bsz, fun b _ _ => noA b, fun b z => absurd z (noA b), e0.funs, e0.frf⟩,
    rfl, e0.bare, Un.kept hk, ⟨_, x.toInCall.ns, fun i y v h1 h2 h3 => ?_⟩, fun y c h => ⟨_, x.cell y c h⟩, e0.hok.fresh (Nat.le_refl _), fun y c h => ?_, fun p hp => absurd (show p ∈ ([] : List (Addr × Obj)) from hp) (by simp), e0.hok.kept hk, ?_⟩
  · exact name_of_addr x.apart (PySem.mem_of_lookup h1) (PySem.mem_of_lookup h2)
  · have hy : scope.names.lookup y = some .cell ∨ scope.names.lookup y = some .free := hy
    rcases hy with hy | hy
    · exact cell_has hy
    · exact absurd rfl (S.nofree _ (PySem.mem_of_lookup hy))
  · exact Nat.le_of_lt (x.above y c (PySem.mem_of_lookup h))
  · have hi : i < vs.length := by
      unfold start at h2
      by_cases hi : i < vs.length
      · exact hi
      · rw [List.getElem?_append_right (by simpa using hi)] at h2
        rw [List.getElem?_replicate] at h2
        split at h2 <;> cases h2
    have ha : vs[i]? = some v := by
      unfold start at h2
      rw [List.getElem?_append_left (by simpa using hi), List.getElem?_map] at h2
      cases e : vs[i]? with
      | none => rw [e] at h2; cases h2
      | some a => rw [e] at h2; cases h2; rfl
    obtain ⟨u, hu, rv⟩ := r.get ha
    have hp : ps[i]? = some y := by
      rw [← S.pre, List.getElem?_take_of_lt (by omega)]; exact h1
    have ndP : ps.Nodup := by rw [← S.pre]; exact S.nd.sublist (List.take_sublist _ _)
    refine ⟨u, rv, ?_⟩
    rcases S.par y (List.mem_of_getElem? hp) with k | k
    · exact .inl ⟨k, bindL_get ndP hp hu k⟩
    · obtain ⟨c, e⟩ := cell_has (n := s.heap.objs.size + 1) k
      refine .inr ⟨.inl k, c, e, ?_⟩
      have q := x.cell y c e
      rw [bindC_get ndP hp hu (by show scope.names.lookup y ≠ _; rw [k]; decide)] at q
      exact q
  · exact e0.hok.fresh (Nat.le_of_lt (x.above y c (PySem.mem_of_lookup h)))
  · unfold start
    show _ = N.length
    rw [List.length_append, List.length_map, List.length_replicate]
    omega
theorem fn_of {CX : CXT} {P : Program} {w : World} {K : PySem.W.Frag} {mg : Str → Option Value} {base : Heap} {k : Nat} {f : Addr} {name qual : Str} {params : Arguments} {body : List Stmt} {scope : Scope} {dV kV doc pm cdv ct oc : Value} {an od : Option Addr}
    {osl : Array (Option Value)} {N ps : List Str} {sp : Sp} (lk : K.lookup f = some ⟨oc, od, .func (PySem.W.fnOf name qual params body scope dV kV doc pm an cdv ct), osl⟩) (hcd : PySem.W.codeIn K cdv qual = true) (S : FnScope N ps scope)
    (len : ∀ vs H Q E, sp vs H Q E → vs.length = ps.length)
    (hbody : ∀ (A : Around) (outer : List Env) (s : Shared) (H : Hp) (vs : List V) (Q : VK) (E : XK), Room k (A.deeper (envOfC qual scope s.heap.objs.size f cdv)) → sp vs H Q E →
      ∃ t, PSs (cxOf CX P w K mg base N qual scope f cdv A outer s H E) body t ∧ t { nx := fun _ H' => Q .non H', rt := Q } (start N vs) H) :
    FnOk P w K mg base CX (k + 1) f (PySem.W.fnOf name qual params body scope dV kV doc pm an cdv ct) ps sp := by
  refine ⟨len, fun A outer s H args us vs Q E hr e0 hb r hsp => ?_⟩
  have hl := len _ _ _ _ hsp
  have KX : K.In s.heap := e0.mod.kin.keeps fun b o e => (e0.bs b o e).1
  have lim : s.heap.NoLimit := e0.mod.nolimit.keeps fun b o e => (e0.bs b o e).1
  have hkind : ∀ y ∈ ps.zip us, scope.names.lookup y.1 = some .local ∨ (scope.names.lookup y.1 = some .cell ∧ ((cellsFrom (s.heap.objs.size + 1) scope.names []).lookup y.1).isSome = true) := fun ⟨n, v⟩ hy => by
    rcases S.par n (List.of_mem_zip hy).1 with q | q
    · exact .inl q
    · exact .inr ⟨q, PySem.W.cellsFrom_some _ _ _ (.inl q)⟩
  refine codeAny_call_function hr.depth (KX _ _ lk) rfl S.co S.gen rfl (PySem.W.codeRec_of KX hcd) (hb _ _ _ _ ?_)
  refine wpAny_newFunctionEnv_cells S.kind hkind fun env he s1 x => ?_
  subst he
  refine ⟨lim.keeps x.toInCall.keep, codeAny_func ?_⟩
  obtain ⟨t, ht, hq⟩ := hbody A outer s H vs Q E (hr.deeper _) hsp
  have I : Inv (cxOf CX P w K mg base N qual scope f cdv A outer s H E) [] (start N vs) H s1 := inv_start S hr.hd e0 hl r x
  refine wpAny_mono (ht [] s1 (start N vs) H _ I hq) (fun fl s' hs => ?_) fun e s' hs => hs
  have fin : ∀ {σ' : St} {H' : Hp} {v : V} {u : Value}, Inv (cxOf CX P w K mg base N qual scope f cdv A outer s H E) [] σ' H' s' → RelV v u → Q v H' → CE outer P w H s Q u s' :=
    fun {σ' H' v u} J rv q => ⟨v, H', J.os, J.bare, J.base, J.hok, rv, q⟩
  cases fl with
  | ret u =>
    obtain ⟨v, σ', H', J, rv, q⟩ := hs
    exact fin J rv q
  | next =>
    obtain ⟨σ', H', J, q⟩ := hs
    exact fin (v := V.non) (u := Value.none) J rfl q
  | brk =>
    obtain ⟨_, _, _, q⟩ := hs
    exact False.elim q
  | cont =>
    obtain ⟨_, _, _, q⟩ := hs
    exact False.elim q
end L2
namespace L2
open PySem PySem.Spec PyProof.Rows
section
variable {X : Cx} {x : Str} {p pos : Pos} {e : Expr} {es : List Expr} {t : TA} {id T : String} {r : List V → Hp → VK → Prop}
def tCB (r : List V → Hp → VK → Prop) (t : TA) : TE := fun σ H Q => t σ H fun vs H1 => r vs H1 Q
theorem pe_callB (hc : CallR X (.builtin id) r) (hg : Gl X x) (hm : X.mg x = none) (hv : bootBuiltins x = some (.builtin id)) (ha : PA X (e :: es) t) (hn : x ≠ "__name__" := by decide) (hdb : (x == ("__debug__" : Str)) = false := by decide)
    (he : starEach (e :: es) X.env = (false, eval e X.env) :: starEach es X.env := by rfl) (hpl : (backTo pos (starEach es X.env)).any (·.1) = false := by rfl) : PE X (.Call (.Name x p) (e :: es) [] pos) (tCB r t) := by
  intro pins s σ H Q I h
  refine wpAny_Call_Name_kw (ld_blt I hg hm hv ?_ hn hdb)
  exact PyProof.Rows.callWith_builtin1 (thn (ha pos pins s σ H _ I h) fun us s1 ⟨vs, H1, I1, r1, q1⟩ => hc pins s1 σ H1 vs us Q I1 r1 q1) he hpl
theorem pe_callTy (hc : CallR X (.type T) r) (hg : Gl X x) (hm : X.mg x = none) (hv : bootBuiltins x = some (.type T)) (ha : PA X (e :: es) t) (hn : x ≠ "__name__" := by decide) (hdb : (x == ("__debug__" : Str)) = false := by decide)
    (he : starEach (e :: es) X.env = (false, eval e X.env) :: starEach es X.env := by rfl) (hpl : (backTo pos (starEach es X.env)).any (·.1) = false := by rfl) : PE X (.Call (.Name x p) (e :: es) [] pos) (tCB r t) := by
  intro pins s σ H Q I h
  refine wpAny_Call_Name_kw (ld_blt I hg hm hv ?_ hn hdb)
  exact PyProof.Rows.callWith_type1 (thn (ha pos pins s σ H _ I h) fun us s1 ⟨vs, H1, I1, r1, q1⟩ => hc pins s1 σ H1 vs us Q I1 r1 q1) he hpl
end
end L2
namespace HT
open PySem PyProof.Rows
section
open PySem.SeqAt
open PySem.AutoSeq1 (wpAny_loadPart')
open PySem.MeetsSeq PySem.MeetsSeq2 PySem.MeetsSeq3
end
section
variable {prog : Program} {w : World} {A : Around} {E : Value → Shared → Prop} {s : Shared}
def sIx (n d : Nat) : Option Int → Nat
  | none => d
  | some v => if v < 0 then (v + (n : Int)).toNat else min v.toNat n
end
end HT
namespace L2
open PySem PySem.Spec PyProof.Rows
abbrev TO := St → Hp → (Option Int → Hp → Prop) → Prop
def tNoPart : TO := fun _ H Q => Q none H
def tPart (t : TE) : TO := fun σ H Q => t σ H fun x H1 => ∃ i, x = .int i ∧ Q (some i) H1
section
variable {X : Cx} {e : Expr} {te : TE} {lo hi : Option Expr} {tl th : TO} {pos p2 : Pos}
def SlR (X : Cx) (r : V → Option Int → Option Int → Hp → VK → Prop) : Prop :=
  ∀ (pins : List (Addr × Obj)) (s : Shared) (σ : St) (H : Hp) (x : V) (v vl vu : Value) (lo hi : Option Int) (sl : Addr) (Q : VK), Inv X pins σ H s → RelV x v → s.heap.IsSliceOf sl vl vu .none → IsPart vl lo → IsPart vu hi → r x lo hi H Q →
    ∃ T id, typeLookup (.type T) "__getitem__" = pure (some (.builtin id)) ∧ s.TypeIs v T ∧ wpAny (model X.prog X.w) X.A (getItem v (.ref sl)) (EP X pins σ Q) X.xe s
theorem SlR.or {r r' : V → Option Int → Option Int → Hp → VK → Prop} (h : SlR X r) (h' : SlR X r') : SlR X (fun x lo hi H Q => r x lo hi H Q ∨ r' x lo hi H Q) := by
  intro pins s σ H x v vl vu lo hi sl Q I rx hs pl pu q
  rcases q with q | q
  · exact h pins s σ H x v vl vu lo hi sl Q I rx hs pl pu q
  · exact h' pins s σ H x v vl vu lo hi sl Q I rx hs pl pu q
def tSl (r : V → Option Int → Option Int → Hp → VK → Prop) (te : TE) (tl th : TO) : TE := fun σ H Q => te σ H fun x H1 => tl σ H1 fun l H2 => th σ H2 fun u H3 => r x l u H3 Q
def cutV (xs : List V) (lo hi : Option Int) : List V := (xs.drop (HT.sIx xs.length 0 lo)).take (HT.sIx xs.length xs.length hi - HT.sIx xs.length 0 lo)
end
end L2
namespace L2
open PySem PySem.Spec PyProof.Rows
def ixN (n : Nat) (i : Int) : Option Nat := if 0 ≤ i then (if i < n then some i.toNat else none) else if -(n : Int) ≤ i then some (i + n).toNat else none
def atI {α : Type} (xs : List α) (i : Int) : Option α := (ixN xs.length i).bind fun j => xs[j]?
theorem ixN_seq {n : Nat} {i : Int} {j : Nat} (h : ixN n i = some j) : seqIndex? i n = some j ∧ j < n ∧ -(n : Int) ≤ i ∧ i < n := by
  unfold ixN at h
  by_cases h0 : 0 ≤ i
  · rw [if_pos h0] at h
    by_cases h1 : i < n
    · rw [if_pos h1] at h
      have e : i.toNat = j := Option.some.inj h
      exact ⟨by rw [seqIndex_of h0 h1, e], by omega, by omega, h1⟩
    · rw [if_neg h1] at h; cases h
  · rw [if_neg h0] at h
    by_cases h1 : -(n : Int) ≤ i
    · rw [if_pos h1] at h
      have e : (i + n).toNat = j := Option.some.inj h
      exact ⟨by rw [seqIndex_neg (by omega) h1, e], by omega, h1, by omega⟩
    · rw [if_neg h1] at h; cases h
theorem atI_get {α : Type} {xs : List α} {i : Int} {v : α} (h : atI xs i = some v) : ∃ j, seqIndex? i xs.length = some j ∧ xs[j]? = some v ∧ j < xs.length ∧ -(xs.length : Int) ≤ i ∧ i < xs.length := by
  unfold atI at h
  cases e : ixN xs.length i with
  | none => rw [e] at h; cases h
  | some j =>
    rw [e] at h
    obtain ⟨h1, h2, h3, h4⟩ := ixN_seq e
    exact ⟨j, h1, h, h2, h3, h4⟩
theorem atI_nat {α : Type} {xs : List α} {j : Nat} {v : α} (h : xs[j]? = some v) : atI xs (j : Int) = some v := by
  have hj : j < xs.length := (List.getElem?_eq_some_iff.mp h).1
  have e : ixN xs.length (j : Int) = some j := by
    unfold ixN
    rw [if_pos (by omega), if_pos (by omega)]; simp
  unfold atI; rw [e]; exact h
theorem atI_last {α : Type} (xs : List α) (v : α) : atI (xs ++ [v]) (-1) = some v := by
  have hl : (xs ++ [v]).length = xs.length + 1 := by simp
  have e : ixN (xs ++ [v]).length (-1) = some xs.length := by
    unfold ixN
    rw [hl, if_neg (by decide), if_pos (by omega)]
    congr 1
    omega
  unfold atI
  rw [e]
  show (xs ++ [v])[xs.length]? = some v
  simp
def PlainIx (b : Expr) : Prop := ∀ o i, subscripted b false o i = operate [o, i] (getItem o i)
def IxR (X : Cx) (r : R2) : Prop :=
  ∀ (value slice : Expr) (pins : List (Addr × Obj)) (s : Shared) (σ : St) (H : Hp) (x y : V) (v u : Value) (Q : VK), Inv X pins σ H s → RelV x v → RelV y u → r x y H Q →
    subscripted slice false v u = operate [v, u] (getItem v u) → wpAny (model X.prog X.w) X.A (subscriptTail value slice v u) (EP X pins σ Q) X.xe s
def MtR (X : Cx) (id : String) (r : V → List V → Hp → VK → Prop) : Prop :=
  ∀ (pins : List (Addr × Obj)) (s : Shared) (σ : St) (H : Hp) (x : V) (xs : List V) (v : Value) (us : List Value) (Q : VK), Inv X pins σ H s → RelV x v → Vals xs us → r x xs H Q →
    wpAny (model X.prog X.w) X.A (call (.builtin id) (v :: us)) (EP X pins σ Q) X.xe s
section
variable {X : Cx} {a b : Expr} {ta tb : TE} {pos : Pos}
theorem IxR.or {r r' : R2} (h : IxR X r) (h' : IxR X r') : IxR X (fun x y H Q => r x y H Q ∨ r' x y H Q) := by
  intro value slice pins s σ H x y v u Q I rx ry q hs
  rcases q with q | q
  · exact h value slice pins s σ H x y v u Q I rx ry q hs
  · exact h' value slice pins s σ H x y v u Q I rx ry q hs
theorem MtR.or {id : String} {r r' : V → List V → Hp → VK → Prop} (h : MtR X id r) (h' : MtR X id r') : MtR X id (fun x xs H Q => r x xs H Q ∨ r' x xs H Q) := by
  intro pins s σ H x xs v us Q I rx rs q
  rcases q with q | q
  · exact h pins s σ H x xs v us Q I rx rs q
  · exact h' pins s σ H x xs v us Q I rx rs q
theorem pe_ix {r : R2} (hr : IxR X r) (ha : PE X a ta) (hb : PE X b tb) (hs : PlainIx b) : PE X (.Subscript a b pos) (tOp r ta tb) := by
  intro pins s σ H Q I h
  exact Subscript_ (binT ha hb I h fun v u s2 x y H2 I2 rx ry q => hr a b pins s2 σ H2 x y v u Q I2 rx ry q (hs _ _))
def rIxL (K : PySem.W.Frag) : R2 := fun x y H Q => ∃ p xs i v, x = .ref p ∧ y = .int i ∧ SqL K H p xs ∧ atI xs i = some v ∧ Q v H
def rIxT (K : PySem.W.Frag) : R2 := fun x y H Q => ∃ p xs i v, x = .ref p ∧ y = .int i ∧ SqT K H p xs ∧ atI xs i = some v ∧ Q v H
theorem ix_list : IxR X (rIxL X.K) := by
  intro value slice pins s σ H x y v u Q I rx ry h hs
  obtain ⟨p, xs, i, z, rfl, rfl, hq, he, q⟩ := h
  cases rx
  obtain ⟨t, rfl⟩ := ry
  obtain ⟨its, r, pl, hz⟩ := I.list hq
  obtain ⟨j, h1, h2, h3, h4, h5⟩ := atI_get he
  obtain ⟨w, ew, rw'⟩ := r.get h2
  have hl := r.length
  have hn := line63
  have fin : EP X pins σ Q w s := ⟨z, H, I, rw', q⟩
  by_cases h0 : 0 ≤ i
  · have hj : i.toNat = j := by
      rw [seqIndex_of h0 h5] at h1
      exact Option.some.inj h1
    exact item_listR pl.isList h0 (by omega) (by rw [hj]; simpa using ew) fin hs
  · have hj : (i + (its.toArray.size : Int)).toNat = j := by
      rw [seqIndex_neg (by omega) h4] at h1
      rw [List.size_toArray, ← hl]
      exact Option.some.inj h1
    exact subscriptTail_builtinR (x := w) pl.isList.typeIs slot_list_getitem.lookup
      (wpAny_getItem_list_neg (Q := fun r s' => r = w ∧ EP X pins σ Q r s') pl.isList (by omega) (by rw [List.size_toArray] <;> omega) (by omega) (by rw [hj]; simpa using ew) ⟨rfl, fin⟩) hs
theorem ix_tup : IxR X (rIxT X.K) := by
  intro value slice pins s σ H x y v u Q I rx ry h hs
  obtain ⟨p, xs, i, z, rfl, rfl, hq, he, q⟩ := h
  cases rx
  obtain ⟨t, rfl⟩ := ry
  obtain ⟨its, r, pl, hz⟩ := I.tuple hq
  obtain ⟨j, h1, h2, h3, h4, h5⟩ := atI_get he
  obtain ⟨w, ew, rw'⟩ := r.get h2
  have hl := r.length
  have hn := line63
  have fin : EP X pins σ Q w s := ⟨z, H, I, rw', q⟩
  exact subscriptTail_builtinR (x := w) pl.typeIs slot_tuple_getitem.lookup
    (getItem_tuple (j := j) (Q := fun r s' => r = w ∧ EP X pins σ Q r s') pl (by omega) (by omega) (by rw [List.size_toArray, ← hl]; exact h1) (by simpa using ew) ⟨rfl, fin⟩) hs
theorem Inv.lst {pins : List (Addr × Obj)} {σ : St} {H : Hp} {s : Shared} {p : Addr} {xs : List V} (I : Inv X pins σ H s) (h : H p = some (.lst xs)) :
    ∃ (its : List Value) (n : Nat), Vals xs its ∧ s.heap.get? p = some { cls := .type "list", data := .seq its.toArray n } ∧ xs.length ≤ sizeLine := by
  obtain ⟨z, its, n, r, e⟩ := I.hok p _ h
  exact ⟨its, n, r, e, z⟩
def rSetL : V → V → V → Hp → (Hp → Prop) → Prop := fun o i v H Q => ∃ p xs k j, o = .ref p ∧ i = .int k ∧ H p = some (.lst xs) ∧ ixN xs.length k = some j ∧ Q (upd H p (.lst (xs.set j v)))
def rSlL (K : PySem.W.Frag) : V → Option Int → Option Int → Hp → VK → Prop := fun x lo hi H Q => ∃ a xs, x = .ref a ∧ SqL K H a xs ∧ ∀ p, H p = none → Q (.ref p) (upd H p (.lst (cutV xs lo hi)))
def flatV : V → Bool
  | .non => true
  | .bl _ => true
  | .int _ => true
  | .str _ => true
  | _ => false
def eqV : V → V → Bool
  | .non, .non => true
  | .bl a, .bl b => a == b
  | .bl a, .int b => (if a then 1 else 0) == b
  | .int a, .bl b => a == (if b then 1 else 0)
  | .int a, .int b => a == b
  | .str a, .str b => a == b
  | _, _ => false
theorem eqAt_V {A : Around} {s : Shared} {y x : V} {u v : Value} (ry : RelV y u) (rx : RelV x v) (fy : flatV y = true) (fx : flatV x = true) : SeqAt.EqAt A s u v (eqV y x) := by
  cases y with
  | non =>
    cases ry
    cases x with
    | non => cases rx; exact SeqAt.EqAt.same _
    | bl b => cases rx; exact SeqAt.EqAt.none_bool b
    | int b => obtain ⟨t, rfl⟩ := rx; exact SeqAt.EqAt.none_int b t
    | str b => obtain ⟨t, rfl⟩ := rx; exact SeqAt.EqAt.none_str b t
    | _ => exact absurd (show false = true from fx) Bool.false_ne_true
  | bl a =>
    cases ry
    cases x with
    | non => cases rx; exact SeqAt.EqAt.bool_none a
    | bl b => cases rx; exact SeqAt.EqAt.bool_bool a b
    | int b => obtain ⟨t, rfl⟩ := rx; exact SeqAt.EqAt.bool_int a b t
    | str b => obtain ⟨t, rfl⟩ := rx; exact SeqAt.EqAt.bool_str a b t
    | _ => exact absurd (show false = true from fx) Bool.false_ne_true
  | int a =>
    obtain ⟨t', rfl⟩ := ry
    cases x with
    | non => cases rx; exact SeqAt.EqAt.int_none a t'
    | bl b => cases rx; exact SeqAt.EqAt.int_bool a t' b
    | int b => obtain ⟨t, rfl⟩ := rx; exact SeqAt.EqAt.int_int a t' b t
    | str b => obtain ⟨t, rfl⟩ := rx; exact SeqAt.EqAt.int_str a t' b t
    | _ => exact absurd (show false = true from fx) Bool.false_ne_true
  | str a =>
    obtain ⟨t', rfl⟩ := ry
    cases x with
    | non => cases rx; exact SeqAt.EqAt.str_none a t'
    | bl b => cases rx; exact SeqAt.EqAt.str_bool a t' b
    | int b => obtain ⟨t, rfl⟩ := rx; exact SeqAt.EqAt.str_int a t' b t
    | str b => obtain ⟨t, rfl⟩ := rx; exact SeqAt.EqAt.str_str a t' b t
    | _ => exact absurd (show false = true from fx) Bool.false_ne_true
  | _ => exact absurd (show false = true from fy) Bool.false_ne_true
def eqU (x : V) (u : Value) : Bool := match u with
  | .none => eqV .non x
  | .bool b => eqV (.bl b) x
  | .int i _ => eqV (.int i) x
  | .str z _ => eqV (.str z) x
  | _ => false
theorem eqU_of {x y : V} {u : Value} (r : RelV y u) (f : flatV y = true) : eqU x u = eqV y x := by
  cases y with
  | non => cases r; rfl
  | bl b => cases r; rfl
  | int i => obtain ⟨t, rfl⟩ := r; rfl
  | str z => obtain ⟨t, rfl⟩ := r; rfl
  | _ => exact absurd (show false = true from f) Bool.false_ne_true
theorem any_eqU {x : V} : ∀ {xs : List V} {us : List Value}, Vals xs us → xs.all flatV = true → us.any (eqU x) = xs.any fun y => eqV y x
  | _, _, .nil, _ => rfl
  | y :: xs, u :: us, .cons r t, f => by
    rw [List.all_cons, Bool.and_eq_true] at f
    rw [List.any_cons, List.any_cons, eqU_of r f.1, any_eqU t f.2]
theorem mem_eqAt {A : Around} {s : Shared} {x : V} {v : Value} (rx : RelV x v) (fx : flatV x = true) : ∀ {xs : List V} {us : List Value}, Vals xs us → xs.all flatV = true → ∀ u ∈ us, SeqAt.EqAt A s u v (eqU x u)
  | _, _, .nil, _ => fun u hu => by cases hu
  | y :: xs, u :: us, .cons r t, f => fun u' hu => by
    rw [List.all_cons, Bool.and_eq_true] at f
    rcases List.mem_cons.mp hu with rfl | hu
    · rw [eqU_of r f.1]; exact eqAt_V r rx f.1 fx
    · exact mem_eqAt rx fx t f.2 u' hu
def inV (x : V) (xs : List V) : Bool := xs.any fun y => eqV y x
def rIn (K : PySem.W.Frag) (neg : Bool) : R2 := fun x y H Q => ∃ p xs, y = .ref p ∧ (SqL K H p xs ∨ SqT K H p xs) ∧ flatV x = true ∧ xs.all flatV = true ∧ Q (.bl (if neg then !inV x xs else inV x xs)) H
theorem op_in_seq : OpR X (compareOp .In) (rIn X.K false) := by
  intro pins s σ H x y v u Q I rx ry h
  obtain ⟨p, xs, rfl, hq, fx, fs, q⟩ := h
  cases ry
  rcases hq with hq | hq
  · obtain ⟨its, r, pl, hz⟩ := I.list hq
    refine SeqAt.in_listAt (eqU x) pl.isList (fun w hw => mem_eqAt rx fx r fs w (by simpa using hw)) ⟨.bl _, H, I, rfl, ?_⟩
    rw [show its.toArray.any (eqU x) = its.any (eqU x) by simp, any_eqU r fs]
    exact q
  · obtain ⟨its, r, pl, hz⟩ := I.tuple hq
    refine SeqAt.in_tupleAt (eqU x) pl (fun w hw => mem_eqAt rx fx r fs w (by simpa using hw)) ⟨.bl _, H, I, rfl, ?_⟩
    rw [show its.toArray.any (eqU x) = its.any (eqU x) by simp, any_eqU r fs]
    exact q
theorem op_notIn_seq : OpR X (compareOp .NotIn) (rIn X.K true) := by
  intro pins s σ H x y v u Q I rx ry h
  obtain ⟨p, xs, rfl, hq, fx, fs, q⟩ := h
  cases ry
  rcases hq with hq | hq
  · obtain ⟨its, r, pl, hz⟩ := I.list hq
    refine SeqAt.notIn_listAt (eqU x) pl.isList (fun w hw => mem_eqAt rx fx r fs w (by simpa using hw)) ⟨.bl _, H, I, rfl, ?_⟩
    rw [show its.toArray.any (eqU x) = its.any (eqU x) by simp, any_eqU r fs]
    exact q
  · obtain ⟨its, r, pl, hz⟩ := I.tuple hq
    refine SeqAt.notIn_tupleAt (eqU x) pl (fun w hw => mem_eqAt rx fx r fs w (by simpa using hw)) ⟨.bl _, H, I, rfl, ?_⟩
    rw [show its.toArray.any (eqU x) = its.any (eqU x) by simp, any_eqU r fs]
    exact q
theorem call_len_seq : CallR X (.builtin "len") (fun xs H Q => ∃ p ys, xs = [.ref p] ∧ (SqL X.K H p ys ∨ SqT X.K H p ys) ∧ Q (.int ys.length) H) := by
  intro pins s σ H xs us Q I r h
  obtain ⟨p, ys, rfl, hq, q⟩ := h
  obtain ⟨u, rfl, rx⟩ := vals1 r
  cases rx
  have hn := line63
  rcases hq with hq | hq
  · obtain ⟨its, r', pl, hz⟩ := I.list hq
    have hlen := r'.length
    exact Calls.call_len_list pl.isList (by simp only [List.size_toArray] <;> omega) ⟨.int ys.length, H, I.tok _, ⟨s.toks + 1, by rw [List.size_toArray, hlen]⟩, q⟩
  · obtain ⟨its, r', pl, hz⟩ := I.tuple hq
    have hlen := r'.length
    exact len_tuple pl (by simp only [List.size_toArray] <;> omega) ⟨.int ys.length, H, I.tok _, ⟨s.toks + 1, by rw [List.size_toArray, hlen]⟩, q⟩
theorem CallR.or {f : Value} {r r' : List V → Hp → VK → Prop} (h : CallR X f r) (h' : CallR X f r') : CallR X f (fun xs H Q => r xs H Q ∨ r' xs H Q) := by
  intro pins s σ H xs us Q I rs q
  rcases q with q | q
  · exact h pins s σ H xs us Q I rs q
  · exact h' pins s σ H xs us Q I rs q
theorem call_list_of : CallR X (.type "list") (fun xs H Q => ∃ p ys, xs = [.ref p] ∧ (SqL X.K H p ys ∨ SqT X.K H p ys) ∧ ∀ l, H l = none → Q (.ref l) (upd H l (.lst ys))) := by
  intro pins s σ H xs us Q I r h
  obtain ⟨p, ys, rfl, hq, q⟩ := h
  obtain ⟨u, rfl, rx⟩ := vals1 r
  cases rx
  have fin : ∀ (its : List Value), Vals ys its → ys.length ≤ sizeLine → ∀ (h' : Heap) (c' : Nat), (∀ b o', s.heap.get? b = some o' → h'.get? b = some o') →
      h'.get? s.heap.objs.size = some { cls := .type "list", dict := none, data := .seq its.toArray c', slots := #[] } → EP X pins σ Q (.ref s.heap.objs.size) { s with heap := h' } := fun its r' hz h' c' kp e =>
    ⟨.ref s.heap.objs.size, _, I.laid (t' := s.toks) kp (Nat.le_refl _) (show ObjOk X.prog X.w _ h' _ (.lst ys) from ⟨hz, its, c', r', e⟩), rfl, q _ (I.hok.fresh (Nat.le_refl _))⟩
  rcases hq with hq | hq
  · obtain ⟨its, r', pl, hz⟩ := I.list hq
    have hlen := r'.length
    obtain ⟨o, ho, hc, n, hd⟩ := pl.isList
    exact call_list_seq p (.inl rfl) ho hc hd (fun h' c' kp e => fin its r' hz h' c' kp e) (by simp only [List.size_toArray] <;> omega)
  · obtain ⟨its, r', pl, hz⟩ := I.tuple hq
    have hlen := r'.length
    obtain ⟨o, ho, hc, n, hd⟩ := pl
    exact call_list_seq p (.inr rfl) ho hc hd (fun h' c' kp e => fin its r' hz h' c' kp e) (by simp only [List.size_toArray] <;> omega)
def tyV (K : PySem.W.Frag) (T : String) (x : V) (H : Hp) : Prop := match x with
  | .str _ => T = "str"
  | .int _ => T = "int"
  | .ref p => (T = "list" ∧ ∃ xs, SqL K H p xs) ∨ (T = "tuple" ∧ ∃ o, K.lookup p = some o ∧ o.cls = .type "tuple" ∧ o.dict = none) ∨
      (T = "dict" ∧ ((∃ kvs, H p = some (.dK kvs)) ∨ ∃ kvs, H p = some (.dT kvs))) ∨ (T = "set" ∧ ∃ S n, H p = some (.set S n))
  | _ => False
theorem tyV_is {pins : List (Addr × Obj)} {σ : St} {H : Hp} {s : Shared} {T : String} {x : V} {v : Value} (I : Inv X pins σ H s) (r : RelV x v) (ty : tyV X.K T x H) :
    s.TypeIs v T ∧ ∀ a, v = .ref a → ∃ ob, s.heap.get? a = some ob ∧ ob.dict = none := by
  cases x with
  | str z =>
    obtain ⟨t, rfl⟩ := r
    cases (show T = "str" from ty)
    exact ⟨typeIs_str s z t, fun _ e => nomatch e⟩
  | int i =>
    obtain ⟨t, rfl⟩ := r
    cases (show T = "int" from ty)
    exact ⟨typeIs_int s i t, fun _ e => nomatch e⟩
  | ref p =>
    cases r
    rcases ty with ⟨rfl, xs, hq⟩ | ⟨rfl, o, hk, hc, hd⟩ | ⟨rfl, hk⟩ | ⟨rfl, S, n, hk⟩
    · obtain ⟨its, _, pl, _⟩ := I.list hq
      refine ⟨pl.isList.typeIs, fun a e => ?_⟩
      cases e
      obtain ⟨o, n, e, c, hd, _⟩ := pl
      exact ⟨o, e, hd⟩
    · refine ⟨⟨o, I.kIn p o hk, hc⟩, fun a e => ?_⟩
      cases e
      exact ⟨o, I.kIn _ o hk, hd⟩
    · have z : ∃ o, s.heap.get? p = some o ∧ o.ExactDict := by
        rcases hk with ⟨kvs, hk⟩ | ⟨kvs, hk⟩
        · obtain ⟨_, _, _, _, o, _, _, e, ex, _⟩ := I.hok p _ hk
          exact ⟨o, e, ex⟩
        · obtain ⟨_, _, _, _, o, _, _, e, ex, _⟩ := I.hok p _ hk
          exact ⟨o, e, ex⟩
      obtain ⟨o, e, ex⟩ := z
      refine ⟨⟨o, e, ex.1⟩, fun a e2 => ?_⟩
      cases e2
      exact ⟨o, e, ex.2.1⟩
    · obtain ⟨o, _, _, _, e, ex, _⟩ := I.hok p _ hk
      refine ⟨⟨o, e, ex.1⟩, fun a e2 => ?_⟩
      cases e2
      exact ⟨o, e, ex.2.1⟩
  | _ => exact False.elim ty
def tBM0 (K : PySem.W.Frag) (T : String) (r : V → List V → Hp → VK → Prop) (to : TE) : TE := fun σ H Q => to σ H fun x H1 => tyV K T x H1 ∧ r x [] H1 Q
def tBM (K : PySem.W.Frag) (T : String) (r : V → List V → Hp → VK → Prop) (to : TE) (t : TA) : TE := fun σ H Q => to σ H fun x H1 => tyV K T x H1 ∧ t σ H1 fun xs H2 => r x xs H2 Q
variable {o e : Expr} {es : List Expr} {to : TE} {t : TA} {name : Str} {apos cpos : Pos} {T id : String} {r : V → List V → Hp → VK → Prop}
theorem pe_bm0 (pa : PlainAttrs T) (slot : Slot T name id) (hty : typeOf (.builtin id) = pure (.type "method_descriptor")) (hm : MtR X id r) (ho : PE X o to)
    (hbase : attributeBase o name X.env (eval o X.env) = eval o X.env := by rfl) (hline : (apos.endLine == cpos.line) = true := by rfl) : PE X (.Call (.Attribute o name apos) [] [] cpos) (tBM0 X.K T r to) := by
  intro pins s σ H Q I h
  refine wpAny_Call_method0_late hbase hline (thn (ho pins s σ H _ I h) fun v s1 ⟨x, H1, I1, r1, ty, q1⟩ => ?_)
  obtain ⟨h1, h2⟩ := tyV_is I1 r1 ty
  exact ⟨T, id, pa, slot, hty, h1, h2, Calls.callWith_builtin rfl (PySem.evalArgs_none (hm pins s1 σ H1 x [] v [] Q I1 r1 .nil q1))⟩
theorem pe_bm (pa : PlainAttrs T) (slot : Slot T name id) (hty : typeOf (.builtin id) = pure (.type "method_descriptor")) (hm : MtR X id r) (ho : PE X o to) (ha : PA X (e :: es) t)
    (hbase : attributeBase o name X.env (eval o X.env) = eval o X.env := by rfl)
    (hfew : ((backTo cpos (starEach (e :: es) X.env)).all (fun x => !x.1) && (backToKw cpos (keywordEach [] X.env)).all (fun x => x.1.isSome)
      && decide ((e :: es).length + ([] : List Keyword).length + (if ([] : List Keyword).isEmpty then 0 else 1) < 30)) = true := by rfl)
    (hline : (apos.endLine == cpos.line) = true := by rfl) (hs : starEach (e :: es) X.env = (false, eval e X.env) :: starEach es X.env := by rfl) (hplain : (backTo cpos (starEach es X.env)).any (·.1) = false := by rfl) :
    PE X (.Call (.Attribute o name apos) (e :: es) [] cpos) (tBM X.K T r to t) := by
  intro pins s σ H Q I h
  refine wpAny_Call_method_late hbase hfew hline rfl (thn (ho pins s σ H _ I h) fun v s1 ⟨x, H1, I1, r1, ty, q1⟩ => ?_)
  obtain ⟨h1, h2⟩ := tyV_is I1 r1 ty
  refine ⟨T, id, pa, slot, hty, h1, h2, ?_⟩
  have hA := ha cpos pins s1 σ H1 _ I1 q1
  rw [hs] at hA ⊢
  refine Calls.callWith_builtin (by show (false || (backTo cpos (starEach es X.env)).any (·.1)) = false; rw [hplain] <;> rfl) (Calls.evalArgs_plain ?_)
  exact thn hA fun us s2 ⟨vs, H2, I2, r2, q2⟩ => hm pins s2 σ H2 x vs v us Q I2 r1 r2 q2
end
end L2
namespace L2
open PySem PySem.Spec PyProof.Rows
def MtM (X : Cx) (id : String) (r : V → List V → Hp → VK → Prop) : Prop :=
  ∀ (pins : List (Addr × Obj)) (s : Shared) (σ : St) (H : Hp) (x : V) (xs : List V) (v : Value) (us : List Value) (Q : VK), Inv X pins σ H s → RelV x v → Vals xs us → r x xs H Q →
    wpAny (model X.prog X.w) X.A (call (.builtin id) (v :: us)) (EP X pins σ Q) X.xe s
theorem Vals.one : ∀ {x : V} {us : List Value}, Vals [x] us → ∃ u, us = [u] ∧ RelV x u
  | _, _, .cons r .nil => ⟨_, rfl, r⟩
theorem Vals.two : ∀ {x y : V} {us : List Value}, Vals [x, y] us → ∃ u v, us = [u, v] ∧ RelV x u ∧ RelV y v
  | _, _, _, .cons r (.cons q .nil) => ⟨_, _, rfl, r, q⟩
theorem Vals.zero : ∀ {us : List Value}, Vals [] us → us = []
  | _, .nil => rfl
theorem Vals.dropLast {xs : List V} {us : List Value} (h : Vals xs us) : Vals xs.dropLast us.dropLast := by
  induction h with
  | nil => exact .nil
  | cons r t ih =>
    cases t with
    | nil => exact .nil
    | cons q t' => exact .cons r ih
theorem Vals.reverse {xs : List V} {us : List Value} (h : Vals xs us) : Vals xs.reverse us.reverse := by
  induction h with
  | nil => exact .nil
  | cons r t ih => rw [List.reverse_cons, List.reverse_cons]; exact Vals.append ih (.cons r .nil)
section
variable {X : Cx} {pins : List (Addr × Obj)} {σ : St} {H : Hp} {s : Shared} {l b : Addr} {xs ys zs : List V}
theorem Inv.lset {its its' : List Value} {n : Nat} {f : Array Value → Array Value} {t' : Nat} (I : Inv X pins σ H s) (hH : H l = some (.lst xs))
    (e : s.heap.get? l = some { cls := .type "list", data := .seq its.toArray n }) (hf : f its.toArray = its'.toArray) (hv : Vals ys its') (hz : ys.length ≤ sizeLine) :
    Inv X pins σ (upd H l (.lst ys)) { s with heap := s.heap.update l (Obj.mapSeq f), toks := t' } := by
  have q := PySem.IsL.update e f
  rw [hf] at q
  refine I.write (x := l) (e := l) (by rw [hH]; exact trivial) (.inl rfl) (fun b' u hb hu => (Heap.get?_update_other s.heap (Obj.mapSeq f) (Ne.symm hb)).trans hu) ⟨_, q⟩ ?_
  exact ⟨hz, its', _, hv, q⟩
theorem Inv.lnew {its : List Value} {t' : Nat} (I : Inv X pins σ H s) (hv : Vals ys its) (hz : ys.length ≤ sizeLine) :
    Inv X pins σ (upd H s.heap.objs.size (.lst ys)) { s with heap := s.heap.push { cls := .type "list", data := .seq its.toArray }, toks := t' } :=
  I.laid (fun _ _ q => Heap.get?_push_of_some _ q) (Nat.le_refl _) ⟨hz, its, 0, hv, Heap.get?_push_size _ rfl⟩
theorem Inv.fresh (I : Inv X pins σ H s) : H s.heap.objs.size = none := I.hok.fresh (Nat.le_refl _)
theorem Inv.lstM (I : Inv X pins σ H s) (hH : H l = some (.lst xs)) : xs.length ≤ sizeLine ∧ ∃ (its : List Value) (n : Nat), Vals xs its ∧ xs.length = its.length ∧ s.heap.get? l = some { cls := .type "list", data := .seq its.toArray n } := by
  obtain ⟨z, its, n, r, e⟩ := I.hok l _ hH
  exact ⟨z, its, n, r, r.length, e⟩
end
section
variable {X : Cx}
def rAppend : V → List V → Hp → VK → Prop := fun x vs H Q => ∃ l xs y, x = .ref l ∧ vs = [y] ∧ H l = some (.lst xs) ∧ xs.length < sizeLine ∧ Q .non (upd H l (.lst (xs ++ [y])))
theorem mt_append : MtM X "list.append" rAppend := by
  intro pins s σ H x vs v us Q I rx rv h
  obtain ⟨l, xs, y, rfl, rfl, hH, hz, q⟩ := h
  cases rx
  obtain ⟨u, rfl, ru⟩ := rv.one
  obtain ⟨z, its, n, r, hl, e⟩ := I.lstM hH
  refine call_meets F.slot_list_append ⟨_, e, rfl⟩ F.entry_list_append (F.args_list_append_2 _ _) (PySem.list_append l its.toArray n u (by rw [List.size_toArray]; omega)) ⟨e, ?_⟩
  refine ⟨.non, _, I.lset (its' := its ++ [u]) hH e (by simp) (r.append (.cons ru .nil)) ?_, rfl, q⟩
  rw [List.length_append, List.length_singleton]
  omega
def rExtend : V → List V → Hp → VK → Prop := fun x vs H Q => ∃ l b xs zs, x = .ref l ∧ vs = [.ref b] ∧ H l = some (.lst xs) ∧ H b = some (.lst zs) ∧ xs.length + zs.length ≤ sizeLine ∧ Q .non (upd H l (.lst (xs ++ zs)))
def rPop : V → List V → Hp → VK → Prop := fun x vs H Q => ∃ l xs y, x = .ref l ∧ vs = [] ∧ H l = some (.lst xs) ∧ xs[xs.length - 1]? = some y ∧ Q y (upd H l (.lst xs.dropLast))
def rReverse : V → List V → Hp → VK → Prop := fun x vs H Q => ∃ l xs, x = .ref l ∧ vs = [] ∧ H l = some (.lst xs) ∧ Q .non (upd H l (.lst xs.reverse))
def rClear : V → List V → Hp → VK → Prop := fun x vs H Q => ∃ l xs, x = .ref l ∧ vs = [] ∧ H l = some (.lst xs) ∧ Q .non (upd H l (.lst []))
theorem mt_clear : MtM X "list.clear" rClear := by
  intro pins s σ H x vs v us Q I rx rv h
  obtain ⟨l, xs, rfl, rfl, hH, q⟩ := h
  cases rx
  have hus := rv.zero
  subst hus
  obtain ⟨z, its, n, r, hl, e⟩ := I.lstM hH
  refine call_meets F.slot_list_clear ⟨_, e, rfl⟩ F.entry_list_clear (F.args_list_clear_1 _) (AutoSeq1.list_clear_list_0 l its.toArray n (by rw [List.size_toArray]; omega)) ⟨e, ?_⟩
  exact ⟨.non, _, I.lset (its' := []) (ys := []) hH e rfl .nil (Nat.zero_le _), rfl, q⟩
def rCat : R2 := fun x y H Q => ∃ l b xs zs, x = .ref l ∧ y = .ref b ∧ H l = some (.lst xs) ∧ H b = some (.lst zs) ∧ xs.length + zs.length ≤ sizeLine ∧ ∀ p, H p = none → Q (.ref p) (upd H p (.lst (xs ++ zs)))
theorem op_cat : OpR X (binaryOp .Add) rCat := by
  intro pins s σ H x y v u Q I rx ry h
  obtain ⟨l, b, xs, zs, rfl, rfl, hH, hB, hz, q⟩ := h
  cases rx
  cases ry
  obtain ⟨z, its, n, r, hl, e⟩ := I.lstM hH
  obtain ⟨z2, its2, n2, r2, hl2, e2⟩ := I.lstM hB
  refine PySem.P.add_list e e2 ?_ (by rw [List.size_toArray, List.size_toArray]; omega)
  have ea : its.toArray ++ its2.toArray = (its ++ its2).toArray := by simp
  rw [ea]
  exact ⟨.ref _, _, I.lnew (t' := s.toks) (r.append r2) (by rw [List.length_append]; omega), rfl, q _ I.fresh⟩
end
section
variable {prog : Program} {w : World} {A : Around} {E : Value → Shared → Prop} {s : Shared}
end
section
variable {X : Cx}
end
end L2
namespace L2
open PySem PySem.Spec PyProof.Rows
section
variable {κ : Type} [DecidableEq κ]
def valV (kvs : List (κ × V)) (k : κ) : Option V := (kvs.find? fun kv => decide (kv.1 = k)).map (·.2)
def putK (kvs : List (κ × V)) (k : κ) (v : V) : List (κ × V) :=
  if (kvs.any fun kv => decide (kv.1 = k)) = true then kvs.map (fun kv => if kv.1 = k then (kv.1, v) else kv) else kvs ++ [(k, v)]
def dropK (kvs : List (κ × V)) (k : κ) : List (κ × V) := kvs.filter fun kv => decide (kv.1 ≠ k)
theorem valV_nil {k : κ} : valV ([] : List (κ × V)) k = none := rfl
theorem valV_pos {p : κ × V} {r : List (κ × V)} {k : κ} (e : p.1 = k) : valV (p :: r) k = some p.2 := by simp [valV, List.find?_cons, e]
theorem valV_neg {p : κ × V} {r : List (κ × V)} {k : κ} (e : ¬ p.1 = k) : valV (p :: r) k = valV r k := by simp [valV, List.find?_cons, e]
theorem valV_any (k : κ) : ∀ kvs : List (κ × V), (kvs.any fun kv => decide (kv.1 = k)) = (valV kvs k).isSome
  | [] => rfl
  | p :: r => by
    rw [List.any_cons]
    by_cases e : p.1 = k
    · simp only [valV_pos e, decide_eq_true e, Bool.true_or, Option.isSome_some]
    · rw [valV_neg e, decide_eq_false e, Bool.false_or]; exact valV_any k r
theorem valV_map (k j : κ) (y : V) : ∀ kvs : List (κ × V), valV (kvs.map fun kv => if kv.1 = k then (kv.1, y) else kv) j = (valV kvs j).map fun x => if j = k then y else x
  | [] => rfl
  | p :: r => by
    have ih := valV_map k j y r
    rw [List.map_cons]
    by_cases h : p.1 = k
    · rw [if_pos h]
      by_cases e : p.1 = j
      · rw [valV_pos (p := (p.1, y)) e, valV_pos e, Option.map_some, if_pos (e.symm.trans h)]
      · rw [valV_neg (p := (p.1, y)) e, valV_neg e, ih]
    · rw [if_neg h]
      by_cases e : p.1 = j
      · rw [valV_pos (p := p) e, valV_pos e, Option.map_some, if_neg (fun z => h (e.trans z))]
      · rw [valV_neg (p := p) e, valV_neg e, ih]
theorem valV_snoc (k j : κ) (y : V) : ∀ kvs : List (κ × V), valV kvs k = none → valV (kvs ++ [(k, y)]) j = if j = k then some y else valV kvs j
  | [], _ => by
    by_cases e : k = j
    · rw [if_pos e.symm]; exact valV_pos (p := (k, y)) e
    · rw [if_neg (fun z => e z.symm)]; exact valV_neg (p := (k, y)) e
  | p :: r, hn => by
    rw [List.cons_append]
    have hk : ¬ p.1 = k := fun z => by rw [valV_pos z] at hn; cases hn
    rw [valV_neg hk] at hn
    have ih := valV_snoc k j y r hn
    by_cases e : p.1 = j
    · rw [valV_pos e, valV_pos e, if_neg (fun z => hk (e.trans z))]
    · rw [valV_neg e, valV_neg e, ih]
theorem valV_put (kvs : List (κ × V)) (k j : κ) (y : V) : valV (putK kvs k y) j = if j = k then some y else valV kvs j := by
  unfold putK
  by_cases a : (kvs.any fun kv => decide (kv.1 = k)) = true
  · rw [if_pos a, valV_map]
    rw [valV_any] at a
    by_cases e : j = k
    · obtain ⟨x, hx⟩ := Option.isSome_iff_exists.mp a
      rw [if_pos e, e, hx, Option.map_some, if_pos rfl]
    · rw [if_neg e]
      cases valV kvs j with
      | none => rfl
      | some x => rw [Option.map_some, if_neg e]
  · rw [if_neg a]
    refine valV_snoc k j y kvs ?_
    rw [valV_any] at a
    cases q : valV kvs k with
    | none => rfl
    | some x => rw [q] at a; exact (a rfl).elim
theorem length_putK (kvs : List (κ × V)) (k : κ) (v : V) : (putK kvs k v).length ≤ kvs.length + 1 := by
  unfold putK
  split
  · rw [List.length_map]; omega
  · rw [List.length_append, List.length_cons, List.length_nil]; omega
theorem putK_new {kvs : List (κ × V)} {k : κ} (v : V) (h : valV kvs k = none) : putK kvs k v = kvs ++ [(k, v)] := by
  unfold putK
  rw [valV_any, h]
  exact if_neg (by decide)
theorem RelO.isSome_eq {o : Option V} {u : Option Value} (r : RelO o u) : o.isSome = u.isSome := by
  cases o with
  | none => cases u with
    | none => rfl
    | some _ => exact (show False from r).elim
  | some _ => cases u with
    | none => exact (show False from r).elim
    | some _ => rfl
theorem RelO.getD {o : Option V} {u : Option Value} {d : V} {d' : Value} (r : RelO o u) (rd : RelV d d') : RelV (o.getD d) (u.getD d') := by
  cases o with
  | none => cases u with
    | none => exact rd
    | some _ => exact (show False from r).elim
  | some _ => cases u with
    | none => exact (show False from r).elim
    | some _ => exact r
theorem KV.val {kvs : List (κ × V)} {vs : List (κ × Value)} (r : KV kvs vs) (k : κ) : RelO (valV kvs k) (valueAt vs k) := by
  unfold KV at r
  induction r with
  | nil => exact True.intro
  | @cons p q ps qs h t ih =>
    obtain ⟨h1, h2⟩ := h
    by_cases e : p.1 = k
    · have e' : q.1 = k := h1.symm.trans e
      have b : valueAt (q :: qs) k = some q.2 := by simp [valueAt, List.find?_cons, e']
      rw [valV_pos e, b]; exact h2
    · have e' : ¬ q.1 = k := fun z => e (h1.trans z)
      have b : valueAt (q :: qs) k = valueAt qs k := by simp [valueAt, List.find?_cons, e']
      rw [valV_neg e, b]; exact ih
theorem KV.any {kvs : List (κ × V)} {vs : List (κ × Value)} (r : KV kvs vs) (k : κ) : (kvs.any fun kv => decide (kv.1 = k)) = vs.any fun kv => decide (kv.1 = k) := by
  unfold KV at r
  induction r with
  | nil => rfl
  | cons h t ih => rw [List.any_cons, List.any_cons, ih, h.1]
theorem KV.repl {kvs : List (κ × V)} {vs : List (κ × Value)} (r : KV kvs vs) (k : κ) {y : V} {u : Value} (ry : RelV y u) :
    KV (kvs.map fun kv => if kv.1 = k then (kv.1, y) else kv) (vs.map fun kv => if kv.1 = k then (kv.1, u) else kv) := by
  unfold KV at r ⊢
  induction r with
  | nil => exact .nil
  | @cons p q ps qs h t ih =>
    rw [List.map_cons, List.map_cons]
    refine .cons ?_ ih
    obtain ⟨h1, h2⟩ := h
    by_cases e : p.1 = k
    · rw [if_pos e, if_pos (h1.symm.trans e)]; exact ⟨h1, ry⟩
    · rw [if_neg e, if_neg (fun z => e (h1.trans z))]; exact ⟨h1, h2⟩
theorem KV.put {kvs : List (κ × V)} {vs : List (κ × Value)} (r : KV kvs vs) (k : κ) {y : V} {u : Value} (ry : RelV y u) : KV (putK kvs k y) (stored vs k u) := by
  unfold putK stored
  rw [r.any k]
  by_cases e : (vs.any fun kv => decide (kv.1 = k)) = true
  · rw [if_pos e, if_pos e]; exact r.repl k ry
  · rw [if_neg e, if_neg e]; exact Paired.snoc r ⟨rfl, ry⟩
theorem KV.drop {kvs : List (κ × V)} {vs : List (κ × Value)} (r : KV kvs vs) (k : κ) : KV (dropK kvs k) (without vs k) := by
  unfold KV at r ⊢
  unfold dropK without
  induction r with
  | nil => exact .nil
  | @cons p q ps qs h t ih =>
    obtain ⟨h1, h2⟩ := h
    rw [List.filter_cons, List.filter_cons]
    by_cases e : p.1 = k
    · have a : ¬ decide (p.1 ≠ k) = true := by simp [e]
      have b : ¬ decide (q.1 ≠ k) = true := by simp [h1.symm.trans e]
      rw [if_neg a, if_neg b]; exact ih
    · have e' : ¬ q.1 = k := fun z => e (h1.trans z)
      have a : decide (p.1 ≠ k) = true := by simp [e]
      have b : decide (q.1 ≠ k) = true := by simp [e']
      rw [if_pos a, if_pos b]; exact .cons ⟨h1, h2⟩ ih
theorem KV.keys {kvs : List (κ × V)} {vs : List (κ × Value)} (r : KV kvs vs) : kvs.map (·.1) = vs.map (·.1) := by
  unfold KV at r
  induction r with
  | nil => rfl
  | cons h t ih => rw [List.map_cons, List.map_cons, ih, h.1]
theorem KV.length {kvs : List (κ × V)} {vs : List (κ × Value)} (r : KV kvs vs) : kvs.length = vs.length := Paired.length r
end
theorem kV_is {P : Program} {w : World} {k : Key} {u : Value} (r : RelV (kV k) u) : (mixKind P w).is k u = true := by
  cases k with
  | inl i => obtain ⟨t, e⟩ := (show ∃ t, u = Value.int i t from r); subst e; exact mixKind_int P w i t
  | inr x => obtain ⟨t, e⟩ := (show ∃ t, u = Value.str x t from r); subst e; exact mixKind_str P w x t
theorem items_are {P : Program} {w : World} : ∀ {ks : List Key} {us : List Value}, Vals (ks.map kV) us → ItemsAre (mixKind P w) ks us
  | [], _, r => by rw [List.map_nil] at r; cases r; exact .nil
  | k :: ks, _, r => by
    rw [List.map_cons] at r
    cases r with
    | cons h t => exact .cons (kV_is h) (items_are t)
abbrev KT (H : Hp) : List (List Key × V) → List (List Key × Addr × Value) → Prop := Paired fun p q => p.1 = q.1 ∧ H q.2.1 = some (.tup (p.1.map kV)) ∧ RelV p.2 q.2.2
theorem KT.val {H : Hp} {kvs : List (List Key × V)} {xs : List (List Key × Addr × Value)} (r : KT H kvs xs) (k : List Key) : RelO (valV kvs k) ((atKey xs k).map (·.2)) := by
  induction r with
  | nil => exact True.intro
  | @cons p q ps qs h t ih =>
    obtain ⟨h1, _, h2⟩ := h
    by_cases e : p.1 = k
    · have e' : q.1 = k := h1.symm.trans e
      have b : atKey (q :: qs) k = some q.2 := by simp [atKey, List.find?_cons, e']
      rw [valV_pos e, b]; exact h2
    · have e' : ¬ q.1 = k := fun z => e (h1.trans z)
      have b : atKey (q :: qs) k = atKey qs k := by simp [atKey, List.find?_cons, e']
      rw [valV_neg e, b]; exact ih
theorem KT.repl {H : Hp} {kvs : List (List Key × V)} {xs : List (List Key × Addr × Value)} (r : KT H kvs xs) (k : List Key) {y : V} {u : Value} (ry : RelV y u) :
    KT H (kvs.map fun kv => if kv.1 = k then (kv.1, y) else kv) (xs.map (putAt k u)) := by
  induction r with
  | nil => exact .nil
  | @cons p q ps qs h t ih =>
    rw [List.map_cons, List.map_cons]
    refine .cons ?_ ih
    obtain ⟨h1, h2, h3⟩ := h
    unfold putAt
    by_cases e : p.1 = k
    · rw [if_pos e, if_pos (h1.symm.trans e)]; exact ⟨h1, h2, ry⟩
    · rw [if_neg e, if_neg (fun z => e (h1.trans z))]; exact ⟨h1, h2, h3⟩
theorem KT.put {H : Hp} {kvs : List (List Key × V)} {xs : List (List Key × Addr × Value)} (r : KT H kvs xs) (k : List Key) {b : Addr} {y : V} {u : Value} (hb : H b = some (.tup (k.map kV))) (ry : RelV y u) :
    KT H (putK kvs k y) (storedH xs k b u) := by
  have e : (kvs.any fun kv => decide (kv.1 = k)) = (atKey xs k).isSome := by
    rw [valV_any, (r.val k).isSome_eq, Option.isSome_map]
  unfold putK storedH
  rw [e]
  by_cases q : (atKey xs k).isSome = true
  · rw [if_pos q, if_pos q]; exact r.repl k ry
  · rw [if_neg q, if_neg q]; exact Paired.snoc r ⟨rfl, hb, ry⟩
theorem KT.keeps {H H' : Hp} {kvs : List (List Key × V)} {xs : List (List Key × Addr × Value)} (r : KT H kvs xs) (ht : ∀ b ys, H b = some (.tup ys) → H' b = some (.tup ys)) : KT H' kvs xs :=
  Paired.mapP r fun _ _ z => ⟨z.1, ht _ _ z.2.1, z.2.2⟩
section
variable {P : Program} {w : World} {H : Hp} {h : Heap} {a : Addr}
theorem rd_of {u : HO} (ok : HOk P w H h) (e : Rd H a u) : ObjOk P w H h a u := e.ok ok
theorem dk_rd {kvs : List (Key × V)} (ok : HOk P w H h) (e : Rd H a (.dK kvs)) : kvs.length ≤ sizeLine ∧ (a == sysModules) = false ∧ ∃ vs, KV kvs vs ∧ h.DictOf (mixKind P w) a vs :=
  show ObjOk P w H h a (.dK kvs) from rd_of ok e
theorem dk_of {kvs : List (Key × V)} (ok : HOk P w H h) (e : H a = some (.dK kvs)) : kvs.length ≤ sizeLine ∧ (a == sysModules) = false ∧ ∃ vs, KV kvs vs ∧ h.DictOf (mixKind P w) a vs := dk_rd ok (.inl e)
theorem key_of {ks : List Key} (ok : HOk P w H h) (e : H a = some (.tup (ks.map kV))) : (tupleKind (mixKind P w)).is h ks a := by
  obtain ⟨_, its, r, o, h1, h2, n, h3⟩ := (show ObjOk P w H h a (.tup (ks.map kV)) from ok a _ e)
  exact ⟨o, its.toArray, n, h1, h2, h3, by simpa using items_are r⟩
theorem dt_rd {kvs : List (List Key × V)} (ok : HOk P w H h) (e : Rd H a (.dT kvs)) : kvs.length ≤ sizeLine ∧ (a == sysModules) = false ∧
    ∃ xs, KT H kvs xs ∧ h.DictOfH (tupleKind (mixKind P w)) a xs := by
  obtain ⟨z, y, xs, r, o, es, ep, h1, h2, h3, h4, h5⟩ := (show ObjOk P w H h a (.dT kvs) from rd_of ok e)
  refine ⟨z, y, xs, r, o, es, ep, h1, h2, h3, h4, fun x hx => ?_, h5⟩
  have all : ∀ {l : List (List Key × V)} {m : List (List Key × Addr × Value)}, KT H l m → ∀ x ∈ m, (tupleKind (mixKind P w)).is h x.1 x.2.1 := by
    intro l m q
    induction q with
    | nil => intro x hx; exact nomatch hx
    | @cons p q ps qs hq t ih =>
      intro x hx
      rcases List.mem_cons.mp hx with e | hx
      · subst e
        exact key_of ok (by rw [← hq.1]; exact hq.2.1)
      · exact ih x hx
  exact all r x hx
theorem dt_of {kvs : List (List Key × V)} (ok : HOk P w H h) (e : H a = some (.dT kvs)) : kvs.length ≤ sizeLine ∧ (a == sysModules) = false ∧
    ∃ xs, KT H kvs xs ∧ h.DictOfH (tupleKind (mixKind P w)) a xs := dt_rd ok (.inl e)
end
def DGet (H : Hp) (a : Addr) (y : V) (r : Option V) : Prop :=
  (∃ kvs k, Rd H a (.dK kvs) ∧ y = kV k ∧ r = valV kvs k) ∨ ∃ kvs k b, Rd H a (.dT kvs) ∧ y = .ref b ∧ H b = some (.tup (k.map kV)) ∧ r = valV kvs k
def DPut (H : Hp) (a : Addr) (y v : V) (H' : Hp) : Prop :=
  (∃ kvs k, H a = some (.dK kvs) ∧ y = kV k ∧ kvs.length < sizeLine ∧ H' = upd H a (.dK (putK kvs k v))) ∨
  ∃ kvs k b, H a = some (.dT kvs) ∧ y = .ref b ∧ H b = some (.tup (k.map kV)) ∧ kvs.length < sizeLine ∧ H' = upd H a (.dT (putK kvs k v))
theorem DGet.k {H : Hp} {a : Addr} {kvs : List (Key × V)} {k : Key} (e : H a = some (.dK kvs)) : DGet H a (kV k) (valV kvs k) := .inl ⟨kvs, k, .inl e, rfl, rfl⟩
theorem DGet.t {H : Hp} {a b : Addr} {kvs : List (List Key × V)} {k : List Key} (e : H a = some (.dT kvs)) (eb : H b = some (.tup (k.map kV))) : DGet H a (.ref b) (valV kvs k) := .inr ⟨kvs, k, b, .inl e, rfl, eb, rfl⟩
theorem DPut.k {H : Hp} {a : Addr} {kvs : List (Key × V)} {k : Key} {v : V} (e : H a = some (.dK kvs)) (hl : kvs.length < sizeLine) : DPut H a (kV k) v (upd H a (.dK (putK kvs k v))) := .inl ⟨kvs, k, e, rfl, hl, rfl⟩
theorem DPut.t {H : Hp} {a b : Addr} {kvs : List (List Key × V)} {k : List Key} {v : V} (e : H a = some (.dT kvs)) (eb : H b = some (.tup (k.map kV))) (hl : kvs.length < sizeLine) :
    DPut H a (.ref b) v (upd H a (.dT (putK kvs k v))) := .inr ⟨kvs, k, b, e, rfl, eb, hl, rfl⟩
section
variable {X : Cx} {pins : List (Addr × Obj)} {σ : St} {H : Hp} {s : Shared} {a : Addr} {y v : V} {u r : Value} {o : Option V} {A : Around} {E : Value → Shared → Prop}
theorem Inv.big (I : Inv X pins σ H s) : sysModules < s.heap.objs.size := by
  have h : mainGlobals < s.heap.objs.size := (I.mod.glob.keeps I.bk).lt
  exact Nat.lt_trans (by decide) h
theorem d_getItem {Q : Value → Shared → Prop} (hu : A.units + 1 < cLine) (I : Inv X pins σ H s) (g : DGet H a y (some v)) (ry : RelV y u) (h : ∀ w' s', Inv X pins σ H s' → RelV v w' → Q w' s') :
    wpAny (model X.prog X.w) A (getItem (.ref a) u) Q E s := by
  rcases g with ⟨kvs, k, e, ey, l⟩ | ⟨kvs, k, b, e, ey, eb, l⟩
  · subst ey
    obtain ⟨z, hd, vs, rel, dd⟩ := dk_rd I.hok e
    obtain ⟨w', hw, rw'⟩ := RelO.some_of (v := v) (o := valueAt vs k) (by rw [l]; exact rel.val k)
    exact wpAny_getItem_of (kV_is ry) dd.mapOf hw (h w' _ (I.tok _) rw')
  · subst ey
    cases (show u = Value.ref b from ry)
    obtain ⟨z, hd, xs, rel, dd⟩ := dt_rd I.hok e
    obtain ⟨w', hw, rw'⟩ := RelO.some_of (v := v) (o := (atKey xs k).map (·.2)) (by rw [l]; exact rel.val k)
    obtain ⟨p, hp, hp2⟩ := Option.map_eq_some_iff.mp hw
    refine wpAny_getItem_heap (tupleKind_room_in1 hu) (key_of I.hok eb) dd hp ?_
    rw [hp2]
    exact h w' _ (I.tok _) rw'
theorem d_write {h' : Heap} {t' : Nat} {ob : HO} (I : Inv X pins σ H s) (mu : Mut (H a)) (hs : Heap.SameBut a s.heap h') (he : ∃ q, h'.get? a = some q) (new : ObjOk X.prog X.w (upd H a ob) h' a ob) :
    Inv X pins σ (upd H a ob) { s with heap := h', toks := t' } :=
  I.write (x := a) (e := a) mu (.inl rfl) (fun b q hb z => (hs.2 b hb).trans z) he new
theorem dk_new {P : Program} {w : World} {H' : Hp} {h' : Heap} {kvs : List (Key × V)} {vs : List (Key × Value)} (z : kvs.length ≤ sizeLine) (hd : (a == sysModules) = false) (rel : KV kvs vs) (dd : h'.DictOf (mixKind P w) a vs) :
    ObjOk P w H' h' a (.dK kvs) := ⟨z, hd, vs, rel, dd⟩
theorem d_setItem {H' : Hp} {Q : Unit → Shared → Prop} (hu : A.units + 1 < cLine) (I : Inv X pins σ H s) (g : DPut H a y v H') (ry : RelV y u) (rv : RelV v r) (h : ∀ s', Inv X pins σ H' s' → Q () s') :
    wpAny (model X.prog X.w) A (setItem (.ref a) u r) Q E s := by
  rcases g with ⟨kvs, k, e, ey, l, eH⟩ | ⟨kvs, k, b, e, ey, eb, l, eH⟩
  · subst ey eH
    obtain ⟨z, hd, vs, rel, dd⟩ := dk_of I.hok e
    have hz : vs.length ≤ sizeLine := by rw [← rel.length]; exact z
    have hl : (putK kvs k v).length ≤ sizeLine := by have := length_putK kvs k v; omega
    refine wpAny_setItem_pairs (hsz := hz) (kV_is ry) dd fun h' dd' hs => h _ ?_
    have he : ∃ q, h'.get? a = some q := let ⟨q, _, _, hq, _⟩ := dd'; ⟨q, hq⟩
    exact d_write I (by rw [e]; exact True.intro) hs he (dk_new hl hd (rel.put k rv) dd')
  · subst ey eH
    cases (show u = Value.ref b from ry)
    obtain ⟨z, hd, xs, rel, dd⟩ := dt_of I.hok e
    have hz : xs.length ≤ sizeLine := by rw [← Paired.length rel]; exact z
    have hl : (putK kvs k v).length ≤ sizeLine := by have := length_putK kvs k v; omega
    refine wpAny_setItem_heap (hsz := hz) (tupleKind_room_in1 hu) (key_of I.hok eb) dd fun h' dd' hs => h _ ?_
    obtain ⟨q, es, ep, hq, h2, h3, h4, _, h5⟩ := dd'
    refine d_write I (by rw [e]; exact True.intro) hs ⟨q, hq⟩ ⟨hl, hd, _, (rel.put k eb rv).keeps fun c ys ec => ?_, q, es, ep, hq, h2, h3, h4, h5⟩
    rw [upd_ne (ne_of ec e (fun z => nomatch z))]
    exact ec
end
section
variable {X : Cx} {pins : List (Addr × Obj)} {σ : St} {H : Hp} {s : Shared} {a : Addr} {kvs : List (Key × V)} {k : Key} {u : Value} {A : Around} {E : Value → Shared → Prop}
end
def NoSl (i : Expr) : Prop := ∀ ov iv, subscripted i false ov iv = operate [ov, iv] (getItem ov iv)
theorem subD_of {prog : Program} {w : World} {A : Around} {E : Value → Shared → Prop} {s : Shared} {env : Env} {value slice : Expr} {pos : Pos} {T id : String} {Q : Value → Shared → Prop}
    (hl : typeLookup (.type T) "__getitem__" = pure (some (.builtin id))) (hs : NoSl slice)
    (h : wpAny (model prog w) A (eval value env) (fun o s₁ => wpAny (model prog w) A (eval slice env) (fun i s₂ => s₂.TypeIs o T ∧ wpAny (model prog w) A (getItem o i) Q E s₂) E s₁) E s) :
    wpAny (model prog w) A (eval (.Subscript value slice pos) env) Q E s := by
  refine Subscript_ (wpAny_mono h (fun o s₁ h₁ => wpAny_mono h₁ (fun i s₂ h₂ => ?_) fun _ _ x => x) fun _ _ x => x)
  obtain ⟨hT, h₂⟩ := h₂
  unfold subscriptTail
  refine wpAny_bind ?_
  rw [getitemInPython_of_ne hT.not_modules]
  refine wpAny_bind (wpAny_specialOf hT hl ?_)
  have fin : wpAny (model prog w) A (subscripted slice false o i) (fun r s₃ => wpAny (model prog w) A (letTemporaryGo value o r >>= fun _ => pure r) Q E s₃) E s₂ := by
    rw [hs o i]
    exact wpAny_operating (wpAny_mono h₂ (fun r s₃ h₃ => wpAny_bind (wpAny_letTemporaryGo (wpAny_pure h₃))) fun _ _ x => x)
  first
    | exact wpAny_pure (wpAny_bind fin)
    | exact wpAny_bind (wpAny_pure (wpAny_bind fin))
    | exact wpAny_bind fin
theorem dict_typeIs {X : Cx} {pins : List (Addr × Obj)} {σ : St} {H : Hp} {s : Shared} {a : Addr} {y : V} {o : Option V} (I : Inv X pins σ H s) (g : DGet H a y o) : s.TypeIs (.ref a) "dict" := by
  rcases g with ⟨kvs, k, e, _, _⟩ | ⟨kvs, k, b, e, _, _, _⟩
  · obtain ⟨_, _, vs, _, dd⟩ := dk_rd I.hok e
    exact dd.typeIs
  · obtain ⟨_, _, xs, _, dd⟩ := dt_rd I.hok e
    exact dd.typeIs
section
variable {X : Cx} {o i e value : Expr} {pos pos' tpos : Pos} {td ty tv : TE}
end
theorem dk_empty {P : Program} {w : World} {H : Hp} (h : Heap) (hb : sysModules < h.objs.size) : ObjOk P w H (h.push { cls := .type "dict", data := .dict #[] }) h.objs.size (.dK []) :=
  ⟨Nat.zero_le _, beq_eq_false_iff_ne.mpr (Ne.symm (Nat.ne_of_lt hb)), [], .nil, Heap.DictOf.new h⟩
def tDNewK : TE := fun _ H Q => ∀ p, H p = none → Q (.ref p) (upd H p (.dK []))
section
variable {X : Cx} {pos : Pos}
theorem pe_dnewK : PE X (.Dict [] [] pos) tDNewK := fun pins s σ H Q I h =>
  wpAny_Dict_empty ⟨.ref s.heap.objs.size, _, I.laid (a := s.heap.objs.size) (o := .dK []) (t' := s.toks) (fun _ _ q => Heap.get?_push_of_some _ q) (Nat.le_refl _) (dk_empty s.heap I.big), rfl, h _ (I.hok.fresh (Nat.le_refl _))⟩
end
def tPairs : List (TE × TE) → St → Hp → (List (V × V) → Hp → Prop) → Prop
  | [], _, H, Q => Q [] H
  | (tk, tv) :: r, σ, H, Q => tk σ H fun x H1 => tv σ H1 fun y H2 => tPairs r σ H2 fun ps H3 => Q ((x, y) :: ps) H3
abbrev VV : List (V × V) → List (Value × Value) → Prop := Paired fun p q => RelV p.1 q.1 ∧ RelV p.2 q.2
def PPs (X : Cx) (pos : Pos) (keys : List (Option Expr)) (values : List Expr) (trs : List (TE × TE)) : Prop :=
  ∀ (pins : List (Addr × Obj)) (s : Shared) (σ : St) (H : Hp) (Q : List (V × V) → Hp → Prop), Inv X pins σ H s → tPairs trs σ H Q →
    wpAny (model X.prog X.w) X.A (evalPairs (pairTrees keys values X.env pos)) (fun vs s' => ∃ ps H', Inv X pins σ H' s' ∧ VV ps vs ∧ Q ps H') X.xe s
theorem pps_nil {X : Cx} {pos : Pos} : PPs X pos [] [] [] := fun pins s σ H Q I h => pairTrees_nil_walk ⟨[], H, I, .nil, h⟩
theorem pps_cons {X : Cx} {pos : Pos} {k v : Expr} {ks : List (Option Expr)} {vs : List Expr} {tk tv : TE} {trs : List (TE × TE)} (hk : PE X k tk) (hv : PE X v tv) (hr : PPs X pos ks vs trs) :
    PPs X pos (some k :: ks) (v :: vs) ((tk, tv) :: trs) := fun pins s σ H Q I h =>
  pairTrees_cons_walk (thn (hk pins s σ H _ I h) fun u s1 ⟨x, H1, I1, rx, q1⟩ => thn (hv pins s1 σ H1 _ I1 q1) fun w2 s2 ⟨y, H2, I2, ry, q2⟩ =>
    thn (hr pins s2 σ H2 _ I2 q2) fun ws s3 ⟨ps, H3, I3, rel, q3⟩ => ⟨(x, y) :: ps, H3, I3, .cons ⟨rx, ry⟩ rel, q3⟩)
def mergeK (kvs more : List (Key × V)) : List (Key × V) := more.foldl (fun acc kv => putK acc kv.1 kv.2) kvs
theorem KV.merge : ∀ {more : List (Key × V)} {rs : List (Key × Value)} {kvs : List (Key × V)} {vs : List (Key × Value)}, KV more rs → KV kvs vs → KV (mergeK kvs more) (merged vs rs) := by
  intro more rs kvs vs r
  unfold KV at r
  induction r generalizing kvs vs with
  | nil => intro q; exact q
  | @cons p q ps qs h t ih =>
    intro r0
    have e : KV (putK kvs p.1 p.2) (stored vs q.1 q.2) := by
      have := r0.put p.1 h.2
      rw [← h.1]; exact this
    exact ih e
theorem length_mergeK : ∀ (more kvs : List (Key × V)), (mergeK kvs more).length ≤ kvs.length + more.length
  | [], kvs => by show kvs.length ≤ kvs.length + 0; omega
  | p :: r, kvs => by
    have h1 := length_mergeK r (putK kvs p.1 p.2)
    have h2 := length_putK kvs p.1 p.2
    show (mergeK (putK kvs p.1 p.2) r).length ≤ _
    rw [List.length_cons]; omega
theorem carries_of {P : Program} {w : World} : ∀ {kvs : List (Key × V)} {ws : List (Value × Value)}, VV (kvs.map fun kv => (kV kv.1, kv.2)) ws → ∃ rs, Carries (mixKind P w) ws rs ∧ KV kvs rs
  | [], _, r => by rw [List.map_nil] at r; cases r; exact ⟨[], True.intro, .nil⟩
  | p :: kvs, _, r => by
    rw [List.map_cons] at r
    cases r with
    | @cons a b as bs h t =>
      obtain ⟨rs, c, q⟩ := carries_of (P := P) (w := w) t
      obtain ⟨b1, b2⟩ := b
      exact ⟨(p.1, b2) :: rs, ⟨kV_is h.1, rfl, c⟩, .cons ⟨rfl, h.2⟩ q⟩
def tDisp (trs : List (TE × TE)) : TE := fun σ H Q => ∀ p, H p = none → tPairs trs σ (upd H p (.dK [])) fun ps H2 => H2 p = some (.dK []) ∧ ∃ kvs : List (Key × V), ps = kvs.map (fun kv => (kV kv.1, kv.2)) ∧ kvs.length ≤ 15 ∧ Q (.ref p) (upd H2 p (.dK (mergeK [] kvs)))
theorem pe_disp {X : Cx} {pos : Pos} {keys : List (Option Expr)} {values : List Expr} {trs : List (TE × TE)} (h : PPs X pos keys values trs) (hall : keys.all (·.isSome) = true) (hl : keys.length = values.length) (h0 : keys ≠ [])
    (h15 : keys.length ≤ 15) : PE X (.Dict keys values pos) (tDisp trs) := by
  intro pins s σ H Q I q
  have hn := I.hok.fresh (Nat.le_refl s.heap.objs.size)
  have I1 := I.laid (a := s.heap.objs.size) (o := .dK []) (h' := s.heap.push { cls := .type "dict", data := .dict #[] }) (t' := s.toks) (fun _ _ q => Heap.get?_push_of_some _ q) (Nat.le_refl _) (dk_empty s.heap I.big)
  refine wpAny_Dict_walk (knd := mixKind X.prog X.w) hall hl h0 h15 (thn (h pins _ σ _ _ I1 (q _ hn)) fun ws s2 ⟨ps, H2, I2, rel, e, kvs, ep, lk, q2⟩ => ?_)
  subst ep
  obtain ⟨rs, c, rk⟩ := carries_of (P := X.prog) (w := X.w) rel
  obtain ⟨z, hd, vs0, r0, dd⟩ := dk_of I2.hok e
  cases r0
  refine ⟨rs, c, dd, fun h' dd' hs => ⟨.ref s.heap.objs.size, _, ?_, rfl, q2⟩⟩
  have hz : (mergeK [] kvs).length ≤ sizeLine := by
    have h1 := length_mergeK kvs []
    rw [List.length_nil] at h1
    rw [sizeLine_eq]; omega
  have he : ∃ q, h'.get? s.heap.objs.size = some q := let ⟨q, _, _, hq, _⟩ := dd'; ⟨q, hq⟩
  exact d_write I2 (by rw [e]; exact True.intro) hs he (dk_new hz hd (rk.merge .nil) dd')
structure M1 (X : Cx) (o : Expr) (m : Str) (apos : Pos) (e : Expr) (cpos : Pos) : Prop where
  base : attributeBase o m X.env (eval o X.env) = eval o X.env
  few : ((backTo cpos (starEach [e] X.env)).all (fun x => !x.1) && (backToKw cpos (keywordEach [] X.env)).all (fun x => x.1.isSome)
    && decide (([e] : List Expr).length + ([] : List Keyword).length + (if ([] : List Keyword).isEmpty then 0 else 1) < 30)) = true
  line : (apos.endLine == cpos.line) = true
  trees : backTo cpos (starEach [e] X.env) = [(false, eval e X.env)]
structure M2 (X : Cx) (o : Expr) (m : Str) (apos : Pos) (e f : Expr) (cpos : Pos) : Prop where
  base : attributeBase o m X.env (eval o X.env) = eval o X.env
  few : ((backTo cpos (starEach [e, f] X.env)).all (fun x => !x.1) && (backToKw cpos (keywordEach [] X.env)).all (fun x => x.1.isSome)
    && decide (([e, f] : List Expr).length + ([] : List Keyword).length + (if ([] : List Keyword).isEmpty then 0 else 1) < 30)) = true
  line : (apos.endLine == cpos.line) = true
  trees : backTo cpos (starEach [e, f] X.env) = [(false, eval e X.env), (false, eval f X.env)]
section
variable {X : Cx} {pins : List (Addr × Obj)} {σ : St} {H : Hp} {s : Shared} {a : Addr} {y d : V} {u r : Value} {o : Option V} {A : Around} {E : Value → Shared → Prop}
end
section
variable {X : Cx} {o e f : Expr} {apos cpos : Pos} {td ty tx : TE}
end
section
variable {X : Cx} {pins : List (Addr × Obj)} {σ : St} {H : Hp} {s : Shared} {a : Addr} {kvs : List (Key × V)} {A : Around} {E : Value → Shared → Prop}
end
section
variable {X : Cx} {pins : List (Addr × Obj)} {σ : St} {H : Hp} {s : Shared} {a : Addr} {y : V} {u : Value} {A : Around} {E : Value → Shared → Prop}
end
end L2
namespace Att
open PySem PySem.W PySem.Calls PyProof.Rows
theorem ints_of_wellAll {P : Params} {h : Heap} : ∀ (ns : List Int) (vs : List Value), WellAll P h vs (ns.map WData.int) → IntsAre vs ns := by
  intro ns
  induction ns with
  | nil =>
    intro vs w
    rw [List.map_nil] at w
    cases w
    exact .nil
  | cons n ns ih =>
    intro vs w
    rw [List.map_cons] at w
    cases w with
    | cons a b =>
      cases a
      exact .cons _ _ (ih _ b)
theorem script_of {l : OpenLaw} {n : Nat} (hn : l.most = some n) {P : Params} {h : Heap} {args : List WData} {vals : List Value}
    (hpre : l.row.toRowW.claim.pre args = true) (hwl : WellAll P h vals args) :
    ∃ a vs ns, vals = [Value.ref a] ∧ args = [WData.list (ns.map WData.int)] ∧ h.get? a = some { cls := .type "list", data := .seq vs.toArray } ∧ IntsAre vs ns ∧ ns.length ≤ n := by
  have hsh : WShape.hasAll [] args [.list .int] = true := (pre_splitW hpre).1
  have hc : l.pre.holds [] { args := args } = true := (pre_splitW hpre).2
  obtain ⟨d, r, rfl, h1, h2⟩ := hasAllW_cons hsh
  obtain rfl := hasAllW_nil h2
  obtain ⟨xs, rfl, h3⟩ := hasW_list h1
  obtain ⟨ns, rfl⟩ := items_int h3
  have hlen : ns.length ≤ n := by
    unfold OpenLaw.pre at hc
    have h4 : (WTm.not (.lt (.lit (.int (n : Int))) (.len (.arg 0)))).holds [] { args := [.list (ns.map .int)] } = true := by
      have h4 := (holds_andW hc).1
      rw [hn] at h4
      exact h4
    have h5 := condW_of h4 (w_not (w_lt w_lit (w_len_list (w_arg rfl))))
    rw [List.length_map] at h5
    refine Nat.le_of_not_lt fun q => ?_
    have q' : (n : Int) < ((ns.length : Nat) : Int) := by omega
    first
      | (rw [decide_eq_true q'] at h5; exact absurd h5 (by decide))
      | (simp at h5; omega)
  cases hwl with
  | cons w1 w2 =>
    cases w2
    cases w1 with
    | list ho hall => exact ⟨_, _, ns, rfl, rfl, ho, ints_of_wellAll ns _ hall, hlen⟩
theorem post_true (l : OpenLaw) (args : List WData) : l.row.toRowW.claim.post args (.bool true) args = true :=
  postW_of (r := l.row.toRowW) (X := (true == true))
    (show WShape.has [] (.bool true) .bool = true by first | rfl | decide | simp [WShape.has, WShape.arms, WShape.armsAll])
    (show (WTm.eq .res (.lit (.bool true))).value [] { args := args, res := some (.bool true), after := args } = some (.bool (true == true)) from w_eq_bool (w_res rfl) w_lit) rfl
theorem attach_call {l : OpenLaw} {n : Nat} {q : Program} {loose : List Str} {XP : (Str → Option Value) → Heap → Prop} {YP : World → Heap → Prop} {d : DefRec}
    (hn : l.most = some n) (hdf : d.params.defaults = [])
    (call : ∀ (w : World) (s₀ s₁ : Shared) (mg mb : Str → Option Value) (fa : Addr) (o : Obj) (pm cd doc : Value) (a : Addr) (vs : List Value) (ns : List Int),
      Ground q loose [] XP w s₀ mg mb s₁.heap → YP w s₁.heap →
      s₁.heap.get? fa = some o → o.data = .func (docDef d.name d.params d.body d.scope pm cd doc) → s₁.heap.CodeRec cd d.name → mg d.name = some (.ref fa) →
      s₁.heap.get? a = some { cls := .type "list", data := .seq vs.toArray } → IntsAre vs ns → ns.length ≤ n → s₁.gens = #[] →
      codeAny (model l.prog w) callerA (.call (.ref fa) ⟨[.ref a], []⟩) (fun r s' => r = .ok (.ret (.bool true)) ∧ OldK s₁.heap s'.heap ∧ s'.os = s₁.os ∧ AllBare s'.gens) s₁) :
    WalkO q loose XP YP l.row.toRowW d [] (fun f vs => PySem.call f vs) := by
  intro w s₀ s₁ mg mb G Y fa o pm cd doc dV kV ho hd hcd hD hmg hg args vals as hpre hlay hrd hwl hlo
  obtain rfl : dV = .none := Dflts.none hD hdf
  obtain rfl : kV = .none := Dflts.noKw hD
  obtain ⟨a, vs, ns, rfl, rfl, hobj, hints, hlen⟩ := script_of hn hpre hwl
  refine enter_call (codeAny_mono (call w s₀ s₁ mg mb fa o pm cd doc a vs ns G Y ho (fd_plain hd) hcd hmg hobj hints hlen hg) fun r s' hq => ?_)
  obtain ⟨rfl, h2, h3, h4⟩ := hq
  exact ⟨.inl ⟨.bool true, .bool true, [], rfl, fun _ => rfl, .bool true, post_true l _, fun _ => ⟨List.Pairwise.nil, fun _ hm => (nomatch hm)⟩⟩, h2, h3, h4⟩
section
variable {prog : Program} {w : World} {A : Around} {E : Value → Shared → Prop} {s : Shared} {K : Frag}
end
end Att
namespace L2
open PySem PySem.Spec PyProof.Rows
theorem vals_ints : ∀ {vs : List Value} {ns : List Int}, IntsAre vs ns → Vals (ns.map V.int) vs
  | _, _, .nil => .nil
  | _, _, .cons n t h => .cons ⟨t, rfl⟩ (vals_ints h)
def Only (H : Hp) : Prop := ∀ b, H b = none ∨ ∃ o xs, H b = some (.frz o (.lst xs))
theorem law_call {P : Program} {w : World} {K : PySem.W.Frag} {mg mb : Str → Option Value} {CX : CXT} {k : Nat} {fa a : Addr} {fd : FuncData} {x : Str} {sp : Sp} {s₁ : Shared} {vs : List Value} {ns : List Int}
    (KX : K.In s₁.heap) (hns : s₁.heap.Ns mainGlobals mg) (hb : s₁.heap.Ns builtinsNs mb) (hbb : ∀ x : Str, x ≠ "__name__" → mb x = bootBuiltins x) (hlim : s₁.heap.NoLimit) (hg : s₁.gens = #[])
    (ha : s₁.heap.get? a = some { cls := .type "list", data := .seq vs.toArray }) (hi : IntsAre vs ns) (hl : ns.length ≤ sizeLine) (hr : Room k callerA)
    (F : ∀ base : Heap, K.In base → base.Ns mainGlobals mg → FnOk P w K mg base CX k fa fd [x] sp) (hbind : ∀ (s : Shared) (u : Value), BindsTo s fd ⟨[u], []⟩ [(x, u)])
    (hsp : ∀ H : Hp, Only H → SqL K H a (ns.map V.int) → sp [.ref a] H (fun v _ => v = .bl true) fun _ _ _ => False)
    (hCX : ∀ H e s', CX [] H s₁ (fun _ _ _ => False) e s' → False) :
    codeAny (model P w) callerA (.call (.ref fa) ⟨[.ref a], []⟩) (fun r s' => r = .ok (.ret (.bool true)) ∧ OldK s₁.heap s'.heap ∧ s'.os = s₁.os ∧ AllBare s'.gens) s₁ := by
  have rv := vals_ints hi
  have lenV := hi.length
  -- from an abstract heap in which nothing but the script may be tracked
  have core : ∀ H : Hp, Only H → SqL K H a (ns.map V.int) → HOk P w H s₁.heap → (∀ b, H b ≠ none → b = a) → (H a ≠ none → K.lookup a = none) →
      codeAny (model P w) callerA (.call (.ref fa) ⟨[.ref a], []⟩) (fun r s' => r = .ok (.ret (.bool true)) ∧ OldK s₁.heap s'.heap ∧ s'.os = s₁.os ∧ AllBare s'.gens) s₁ := by
    intro H hO hS hok hA hK
    have base_of : ∀ {b : Addr} {o : Obj}, s₁.heap.get? b = some o → H b = none → (hidT s₁.heap H).get? b = some o := fun e n => hidT_get e n
    have noA : ∀ {b : Addr} {o : Obj} {es : Array DictEntry} {ep : Nat}, s₁.heap.get? b = some o → o.data = .dict es ep → H b = none := fun {b o es ep} e d => by
      cases q : H b with
      | none => rfl
      | some u =>
        have e' : b = a := hA b (by rw [q]; simp)
        subst e'
        rw [ha] at e; cases e
        have d' : Data.seq vs.toArray _ = Data.dict es ep := d
        cases d'
    have nsK : ∀ {b : Addr} {m : Str → Option Value}, s₁.heap.Ns b m → (hidT s₁.heap H).Ns b m := fun {b m} ⟨o, es, ep, e, d, r⟩ => ⟨o, es, ep, base_of e (noA e d), d, r⟩
    have hKb : K.In (hidT s₁.heap H) := fun b o e => base_of (KX b o e) (by
      cases q : H b with
      | none => rfl
      | some u =>
        have e' : b = a := hA b (by rw [q]; simp)
        subst e'
        rw [hK (by rw [q]; simp)] at e; cases e)
    have hM : Mod K mg (hidT s₁.heap H) := ⟨hKb, nsK hns, ⟨mb, nsK hb, hbb⟩, let ⟨mc, h1, h2⟩ := hlim; ⟨mc, nsK h1, h2⟩⟩
    have e0 : Env0 P w K mg (hidT s₁.heap H) callerA [] s₁ H := ⟨rfl, hM, fun b o e => of_hidT e, Nat.le_of_eq (hidT_size _ _), trivial, fun b hb => absurd (show b ∈ ([] : List Addr) from hb) (by simp), hok, .of_eq hg⟩
    refine codeAny_mono ((F _ hKb (nsK hns)).run callerA [] s₁ H ⟨[.ref a], []⟩ [.ref a] [.ref a] _ _ hr e0 (hbind s₁ (.ref a)) (.cons rfl .nil) (hsp H hO hS)) fun r s' h => ?_
    cases r with
    | error e => exact (hCX H e s' h).elim
    | ok fl =>
      cases fl with
      | next => exact False.elim h
      | brk => exact False.elim h
      | cont => exact False.elim h
      | ret u =>
        obtain ⟨v, H', os, bare, un, hok', r', q⟩ := h
        have q' : v = .bl true := q
        subst q'
        obtain rfl : u = Value.bool true := r'
        refine ⟨rfl, OldK.of_keep fun b o e => ?_, os, bare⟩
        cases q : H b with
        | none => exact un.keep b o e q (by intro z; exact absurd (show b ∈ ([] : List Addr) from z) (by simp)) (by simp)
        | some u =>
          rcases hO b with z | ⟨ob, xs, z⟩
          · rw [q] at z; cases z
          · have z2 := un.frzs b ob _ z
            obtain ⟨e1, _⟩ := hok b _ z
            obtain ⟨e2, _⟩ := hok' b _ z2
            rw [e] at e1; cases e1
            exact e2
  cases hk : K.lookup a with
  | some o =>
    -- the script is one of the module's own objects
    have e := KX a o hk
    rw [ha] at e
    cases e
    refine core (fun _ => none) (fun _ => .inl rfl) (.inr ⟨_, vs.toArray, _, hk, rfl, rfl, rfl, by rw [List.size_toArray, lenV]; exact hl, by simpa using rv⟩) (fun b u z => by have z' : (none : Option HO) = some u := z; cases z') (fun b z => absurd rfl z) fun z => absurd rfl z
  | none =>
    refine core (fun b => if b = a then some (.frz { cls := .type "list", data := .seq vs.toArray } (.lst (ns.map V.int))) else none) (fun b => ?_) (.inl (.inr ⟨{ cls := .type "list", data := .seq vs.toArray }, if_pos rfl⟩)) (fun b u z => ?_) (fun b z => ?_) fun _ => hk
    · by_cases hb : b = a
      · exact .inr ⟨_, _, if_pos hb⟩
      · exact .inl (if_neg hb)
    · by_cases hb : b = a
      · have z' := (if_pos hb).symm.trans z
        cases z'
        subst hb
        exact ⟨ha, by rw [List.length_map]; exact hl, vs, _, rv, ha⟩
      · have z' := (if_neg hb).symm.trans z
        cases z'
    · by_cases hb : b = a
      · exact hb
      · exact absurd (if_neg hb) z
end L2
namespace L2
open PySem PySem.Spec PyProof.Rows
theorem walk_of {l : PySem.W.OpenLaw} {n k : Nat} {q : Program} {loose : List Str} {XP : (Str → Option Value) → Heap → Prop} {YP : World → Heap → Prop} {d : DefRec} {K : Params → PySem.W.Frag} {CX : World → CXT} {sp : World → Sp} {x : Str}
    (hn : l.most = some n) (hn2 : n ≤ sizeLine) (hdf : d.params.defaults = []) (hr : Room k callerA)
    (hY : ∀ (w : World) (h : Heap), YP w h → (K w.params).In h)
    (F : ∀ (w : World) (mg : Str → Option Value) (fa : Addr) (h : Heap), (K w.params).In h → h.Ns mainGlobals mg → mg d.name = some (.ref fa) →
      ∃ fd : FuncData, (∀ (s : Shared) (u : Value), BindsTo s fd ⟨[u], []⟩ [(x, u)]) ∧
        ∀ base : Heap, (K w.params).In base → base.Ns mainGlobals mg → FnOk l.prog w (K w.params) mg base (CX w) k fa fd [x] (sp w))
    (hsp : ∀ (w : World) (H : Hp) (a : Addr) (ns : List Int), ns.length ≤ n → Only H → SqL (K w.params) H a (ns.map V.int) → sp w [.ref a] H (fun v _ => v = .bl true) fun _ _ _ => False)
    (hCX : ∀ (w : World) (H : Hp) (s : Shared) (e : Value) (s' : Shared), CX w [] H s (fun _ _ _ => False) e s' → False) :
    PySem.W.WalkO q loose XP YP l.row.toRowW d [] (fun f vs => PySem.call f vs) := by
  refine Att.attach_call hn hdf fun w s₀ s₁ mg mb fa o pm cd doc a vs ns G Y ho hd hcd hmg hobj hints hlen hg => ?_
  have KX := hY w _ Y
  obtain ⟨fd, hb, hF⟩ := F w mg fa _ KX G.T.g hmg
  exact law_call KX G.T.g G.T.b G.T.builtins G.T.nolimit hg hobj hints (Nat.le_trans hlen hn2) hr hF hb (fun H hO hS => hsp w H a ns hlen hO hS) fun H e s' => hCX w H s₁ e s'
end L2
namespace L2
open PySem PySem.Spec PyProof.Rows
def defArgs (s : Stmt) : Arguments := match s with
  | .FunctionDef _ a _ _ _ _ _ _ _ _ => a
  | _ => { posonlyargs := [], args := [], vararg := none, kwonlyargs := [], kw_defaults := [], kwarg := none, defaults := [] }
def defBody (s : Stmt) : List Stmt := match s with
  | .FunctionDef _ _ b _ _ _ _ _ _ _ => b
  | _ => []
def defScope (s : Stmt) : Scope := match s with
  | .FunctionDef _ _ _ _ _ _ sc _ _ _ => sc
  | _ => { kind := .function, names := [], isGenerator := false, isCoroutine := false }
abbrev CX0 : CXT := fun _ _ _ _ _ _ => False
abbrev E0 : XK := fun _ _ _ => False
theorem pass0 {X : Cx} : Passes CX0 X E0 := fun _ _ _ _ _ _ _ h => h.elim
structure Fun (K : PySem.W.Frag) (x qual : Str) (st : Stmt) (f : Addr) (fd : FuncData) : Prop where
  ex : ∃ (oc : Value) (od : Option Addr) (kV doc pm : Value) (an : Option Addr) (cdv ct : Value) (osl : Array (Option Value)),
    fd = PySem.W.fnOf x qual (defArgs st) (defBody st) (defScope st) .none kV doc pm an cdv ct ∧ K.lookup f = some ⟨oc, od, .func fd, osl⟩ ∧ PySem.W.codeIn K cdv qual = true
  kp : PySem.W.keepIn K (.ref f) = true
section
variable {P : Program} {w : World} {K : PySem.W.Frag} {mg : Str → Option Value} {base : Heap}
theorem Fun.ok {x qual : Str} {st : Stmt} {f : Addr} {fd : FuncData} {N ps : List Str} {k : Nat} {sp : Sp} (F : Fun K x qual st f fd) (S : FnScope N ps (defScope st)) (len : ∀ vs H Q E, sp vs H Q E → vs.length = ps.length)
    (hbody : ∀ (cdv : Value) (A : Around) (outer : List Env) (s : Shared) (H : Hp) (vs : List V) (Q : VK) (E : XK), Room k (A.deeper (envOfC qual (defScope st) s.heap.objs.size f cdv)) → sp vs H Q E →
      ∃ t, PSs (cxOf CX0 P w K mg base N qual (defScope st) f cdv A outer s H E).nox (defBody st) t ∧ t { nx := fun _ H' => Q .non H', rt := Q } (start N vs) H) : FnOk P w K mg base CX0 (k + 1) f fd ps sp := by
  obtain ⟨oc, od, kV, doc, pm, an, cdv, ct, osl, rfl, lk, hcd⟩ := F.ex
  refine fn_of lk hcd S len fun A outer s H vs Q E hr hsp => ?_
  obtain ⟨t, h, q⟩ := hbody cdv A outer s H vs Q E hr hsp
  exact ⟨t, h.nox, q⟩
theorem Fun.binds {x qual : Str} {st : Stmt} {f : Addr} {fd : FuncData} {ps : List Str} (F : Fun K x qual st f fd)
    (h : ∀ (kV doc pm : Value) (an : Option Addr) (cdv ct : Value) (us : List Value), us.length = ps.length → bindArgs (PySem.W.fnOf x qual (defArgs st) (defBody st) (defScope st) .none kV doc pm an cdv ct) ⟨us, []⟩ = pure (ps.zip us)) : Binds K fd ps [] := by
  obtain ⟨oc, od, kV, doc, pm, an, cdv, ct, osl, rfl, lk, hcd⟩ := F.ex
  exact .all (h kV doc pm an cdv ct)
theorem fun_mk {x qual : Str} {st : Stmt} {f : Addr} {oc : Value} {od an : Option Addr} {osl : Array (Option Value)} {kV doc pm cdv ct : Value} (l : K.lookup f = some ⟨oc, od, .func (PySem.W.fnOf x qual (defArgs st) (defBody st) (defScope st) .none kV doc pm an cdv ct), osl⟩)
    (c : PySem.W.codeIn K cdv qual = true) (k : PySem.W.keepIn K (.ref f) = true) : Fun K x qual st f (PySem.W.fnOf x qual (defArgs st) (defBody st) (defScope st) .none kV doc pm an cdv ct) := ⟨⟨oc, od, kV, doc, pm, an, cdv, ct, osl, rfl, l, c⟩, k⟩
end
theorem hu_of {A : Around} {k : Nat} (hr : Room k A) : A.units + 1 < cLine := Nat.lt_of_le_of_lt (Nat.add_le_add_left (by decide : 1 ≤ 64) _) hr.units
theorem small1000 {n : Nat} (h : n ≤ 1000) : n < sizeLine := Nat.lt_of_le_of_lt h (by decide)
section
variable {X : Cx}
theorem pv (i : Nat) {x : Str} {pos : Pos} (hN : X.N[i]? = some x := by rfl) (hv : Vis X.env.scope x := by first | exact Or.inl rfl | exact Or.inr (Or.inl rfl) | exact Or.inr (Or.inr rfl)) (hd : (x == ("__debug__" : Str)) = false := by decide)
    (hcd : (x == ("__classdict__" : Str)) = false := by decide) : PE X (.Name x pos) (tVar i) := pe_var hN hv hd hcd
end
theorem ite2 {c A B : Prop} [Decidable c] (h1 : c → A) (h2 : ¬ c → B) : if c then A else B := by
  by_cases h : c
  · rw [if_pos h]
    exact h1 h
  · rw [if_neg h]
    exact h2 h
def Same (H H' : Hp) : Prop := ∀ b o, H b = some o → H' b = some o
theorem Same.refl (H : Hp) : Same H H := fun _ _ h => h
theorem Same.trans {H H1 H2 : Hp} (a : Same H H1) (b : Same H1 H2) : Same H H2 := fun c o h => b c o (a c o h)
theorem Same.free {H H' : Hp} (e : Same H H') {l : Addr} (h : H' l = Option.none) : H l = Option.none := by
  cases q : H l with
  | none => rfl
  | some o =>
    rw [e l o q] at h
    cases h
theorem Same.seq {K : PySem.W.Frag} {H H' : Hp} {a : Addr} {xs : List V} (e : Same H H') (h : SqL K H a xs) : SqL K H' a xs := by
  rcases h with (h | ⟨o, h⟩) | h
  · exact .inl (.inl (e _ _ h))
  · exact .inl (.inr ⟨o, e _ _ h⟩)
  · exact .inr h
end L2
namespace L2
open PySem PySem.Spec PyProof.Rows
section
variable {X : Cx}
end
end L2
namespace L2
open PySem PySem.Spec PyProof.Rows
section
variable {κ : Type} [DecidableEq κ]
end
end L2
set_option Elab.async false
set_option linter.all false
set_option maxRecDepth 100000
namespace L2
open PySem PySem.Spec PyProof.Rows
section
variable {σ : St} {H : Hp} {Q : VK} {D : Ends}
theorem w_var {i : Nat} : tVar i σ H Q = ∃ v, σ[i]? = some (some v) ∧ Q v H := rfl
theorem w_C {v : V} : tC v σ H Q = Q v H := rfl
theorem w_op {r : R2} {ta tb : TE} : tOp r ta tb σ H Q = ta σ H fun x H1 => tb σ H1 fun y H2 => r x y H2 Q := rfl
theorem w_un {r : V → Hp → VK → Prop} {ta : TE} : tUn r ta σ H Q = ta σ H fun x H1 => r x H1 Q := rfl
theorem w_rI {C : Int → Int → Prop} {g : Int → Int → V} {i j : Int} : rI C g (.int i) (.int j) H Q = (C i j ∧ Q (g i j) H) :=
  propext ⟨fun ⟨a, b, e1, e2, c, q⟩ => by cases e1; cases e2; exact ⟨c, q⟩, fun ⟨c, q⟩ => ⟨i, j, rfl, rfl, c, q⟩⟩
theorem w_rI0 {g : Int → Int → V} {i j : Int} : rI0 g (.int i) (.int j) H Q = Q (g i j) H :=
  propext ⟨fun ⟨a, b, e1, e2, q⟩ => by cases e1; cases e2; exact q, fun q => ⟨i, j, rfl, rfl, q⟩⟩
theorem w_rU {g : Int → V} {i : Int} : rU g (.int i) H Q = Q (g i) H :=
  propext ⟨fun ⟨a, e1, q⟩ => by cases e1; exact q, fun q => ⟨i, rfl, q⟩⟩
theorem w_eqI {i j : Int} : rEq (.int i) (.int j) H Q = Q (.bl (decide (i = j))) H :=
  propext (by
    have e : decide (V.int i = V.int j) = decide (i = j) := by by_cases h : i = j <;> simp [h]
    unfold rEq; rw [e]; exact ⟨fun h => h.2, fun h => ⟨rfl, h⟩⟩)
theorem w_neI {i j : Int} : rNe (.int i) (.int j) H Q = Q (.bl (!decide (i = j))) H :=
  propext (by
    have e : decide (V.int i = V.int j) = decide (i = j) := by by_cases h : i = j <;> simp [h]
    unfold rNe; rw [e]; exact ⟨fun h => h.2, fun h => ⟨rfl, h⟩⟩)
theorem w_seq {t u : TS} : tSeq t u D σ H = t { D with nx := u D } σ H := rfl
theorem w_next : tNext D σ H = D.nx σ H := rfl
theorem w_break : tBreak D σ H = D.bk σ H := rfl
theorem w_cont : tCont D σ H = D.ct σ H := rfl
theorem w_ifS {c : TT} {t u : TS} : tIfS c t u D σ H = c σ H fun b H1 => if b = true then t D σ H1 else u D σ H1 := rfl
theorem w_ret {te : TE} : tRet te D σ H = te σ H D.rt := rfl
theorem w_retN : tRetN D σ H = D.rt .non H := rfl
theorem w_drop {te : TE} : tDrop te D σ H = te σ H fun _ H1 => D.nx σ H1 := rfl
theorem w_asg {te : TE} {g : TG} : tAsg te g D σ H = te σ H fun x H1 => g x σ H1 D.nx := rfl
theorem w_gName {i : Nat} {v : V} {R : St → Hp → Prop} : gName i v σ H R = R (σ.set i (some v)) H := rfl
theorem w_gSub {to ti : TE} {t : TSet} {v : V} {R : St → Hp → Prop} : gSub to ti t v σ H R = to σ H fun o H1 => ti σ H1 fun i H2 => t o i v H2 fun H3 => R σ H3 := rfl
theorem w_test {t : TE} {R : Bool → Hp → Prop} : tTest t σ H R = t σ H fun x H' => ∃ k, x = .bl k ∧ R k H' := rfl
theorem w_B {t : TE} {R : Bool → Hp → Prop} : tB t σ H R = t σ H fun x H' => ∃ k, x = .bl k ∧ R k H' := rfl
theorem w_and {t u : TT} {R : Bool → Hp → Prop} : tAnd t u σ H R = t σ H fun c H1 => if c = true then u σ H1 R else R false H1 := rfl
theorem w_or {t u : TT} {R : Bool → Hp → Prop} : tOr t u σ H R = t σ H fun c H1 => if c = true then R true H1 else u σ H1 R := rfl
theorem w_not {t : TT} {R : Bool → Hp → Prop} : tNot t σ H R = t σ H fun c H1 => R (!c) H1 := rfl
theorem w_andV {ta tb : TE} : tAndV ta tb σ H Q = ta σ H fun x H1 => ∃ c, x = .bl c ∧ if c = true then tb σ H1 Q else Q (.bl false) H1 := rfl
theorem w_orV {ta tb : TE} : tOrV ta tb σ H Q = ta σ H fun x H1 => ∃ c, x = .bl c ∧ if c = true then Q (.bl true) H1 else tb σ H1 Q := rfl
theorem w_notV {ta : TE} : tNotV ta σ H Q = ta σ H fun x H1 => ∃ c, x = .bl c ∧ Q (.bl (!c)) H1 := rfl
theorem w_if {t : TT} {ta tb : TE} : tIf t ta tb σ H Q = t σ H fun c H1 => if c = true then ta σ H1 Q else tb σ H1 Q := rfl
theorem w_call {sp : Sp} {dvs : List V} {E : XK} {t : TA} : tCall sp dvs E t σ H Q = t σ H fun vs H1 => sp (vs ++ dvs) H1 Q E := rfl
theorem w_nil {R : List V → Hp → Prop} : tNil σ H R = R [] H := rfl
theorem w_cons {ta : TE} {tr : TA} {R : List V → Hp → Prop} : tCons ta tr σ H R = ta σ H fun x H1 => tr σ H1 fun xs H2 => R (x :: xs) H2 := rfl
theorem w_CB {r : List V → Hp → VK → Prop} {t : TA} : tCB r t σ H Q = t σ H fun vs H1 => r vs H1 Q := rfl
theorem w_lst {t : TA} : tLst t σ H Q = t σ H fun xs H1 => xs.length ≤ sizeLine ∧ ∀ p, H1 p = none → Q (.ref p) (upd H1 p (.lst xs)) := rfl
theorem w_tup {t : TA} : tTup t σ H Q = t σ H fun xs H1 => xs.length ≤ sizeLine ∧ ∀ p, H1 p = none → Q (.ref p) (upd H1 p (.tup xs)) := rfl
theorem w_isN {ta : TE} : tIsN ta σ H Q = ta σ H fun x H1 => Q (.bl (decide (x = .non))) H1 := rfl
theorem w_notN {ta : TE} : tNotN ta σ H Q = ta σ H fun x H1 => Q (.bl (!decide (x = .non))) H1 := rfl
theorem w_chain {r r' : R2} {ta tb tc : TE} : tChain r r' ta tb tc σ H Q = (ta σ H fun x H1 => tb σ H1 fun y H2 => r x y H2 fun z H3 => ∃ k, z = .bl k ∧
  if k = true then tc σ H3 fun w H4 => r' y w H4 Q else Q (.bl false) H3) := by first | rfl | (unfold tChain; rfl)
end
section
variable {X : Cx} {st : Stmt} {rest : List Stmt} {t u : TS}
def tMid (t u : TS) : TS := fun D σ H => ∃ mid : St → Hp → Prop, t { D with nx := mid } σ H ∧ ∀ σ' H', mid σ' H' → u D σ' H'
theorem pss_mid (h1 : PS X st t) (h2 : PSs X rest u) : PSs X (st :: rest) (tMid t u) := by
  intro pins s σ H D I h
  obtain ⟨mid, q, k⟩ := h
  refine wpAny_execs_cons (thn (h1 pins s σ H { D with nx := mid } I q) fun f s1 q => ?_)
  cases f with
  | next =>
    obtain ⟨σ', H', I', q⟩ := q
    exact h2 pins s1 σ' H' D I' (k _ _ q)
  | ret v => exact q
  | brk => exact q
  | cont => exact q
end
structure Cal (P : Program) (w : World) (K : PySem.W.Frag) (mg : Str → Option Value) (base : Heap) (k : Nat) (x : Str) (ps : List Str) (sp : Sp) : Prop where
  ex : ∃ (f : Addr) (fd : FuncData), FnOk P w K mg base CX0 k f fd ps sp ∧ mg x = some (.ref f) ∧ PySem.W.keepIn K (.ref f) = true ∧ Binds K fd ps []
theorem Cal.mono {P : Program} {w : World} {K : PySem.W.Frag} {mg : Str → Option Value} {base : Heap} {j k : Nat} {x : Str} {ps : List Str} {sp : Sp} (C : Cal P w K mg base j x ps sp) (h : j ≤ k) : Cal P w K mg base k x ps sp := by
  obtain ⟨f, fd, a, b, c, d⟩ := C.ex
  exact ⟨f, fd, a.mono h, b, c, d⟩
theorem Cal.imp {P : Program} {w : World} {K : PySem.W.Frag} {mg : Str → Option Value} {base : Heap} {k : Nat} {x : Str} {ps : List Str} {sp sp' : Sp} (C : Cal P w K mg base k x ps sp) (h : ∀ vs H Q E, sp' vs H Q E → sp vs H Q E) : Cal P w K mg base k x ps sp' := by
  obtain ⟨f, fd, a, b, c, d⟩ := C.ex
  exact ⟨f, fd, a.imp h, b, c, d⟩
section
variable {X : Cx} {k : Nat} {x : Str} {ps : List Str} {sp : Sp} {e : Expr} {es : List Expr} {t : TA} {p pos : Pos}
theorem pe_cal (C : Cal X.prog X.w X.K X.mg X.base k x ps sp) (hr : Room k X.A) (hg : Gl X x) (ha : PA X (e :: es) t) (hd : (x == ("__debug__" : Str)) = false := by decide)
    (he : starEach (e :: es) X.env = (false, eval e X.env) :: starEach es X.env := by rfl) (hpl : (backTo pos (starEach es X.env)).any (·.1) = false := by rfl) : PE X (.Call (.Name x p) (e :: es) [] pos) (tCall sp [] E0 t) := by
  obtain ⟨f, fd, a, b, c, d⟩ := C.ex
  exact pe_call a hr hg b c d .nil pass0 ha hd he hpl
end
theorem bits_le {i : Int} {n : Nat} (h : i.natAbs < 2 ^ n) : Builtin.Int.intBits i ≤ n := by
  unfold Builtin.Int.intBits
  split
  · exact Nat.zero_le _
  · rename_i h0
    have hp : i.natAbs ≠ 0 := by
      intro z
      exact h0 (by simpa using z)
    have : i.natAbs.log2 < n := (Nat.log2_lt hp).mpr h
    omega
def CShl (i j : Int) : Prop := 0 ≤ j ∧ j ≤ 1000000 ∧ Builtin.Int.intBits i ≤ 1000000
def CDivB (i j : Int) : Prop := 0 < j ∧ j.natAbs.log2 < 9000
section
variable {X : Cx}
theorem op_shlB : OpR X (binaryOp .LShift) (rI CShl fun i j => .int (i * 2 ^ j.toNat)) := opI fun i j _ _ _ _ _ hc q => lshift_int hc.1 (by have h1 := hc.2.1; have h2 := hc.2.2; omega) q
theorem op_mulB : OpR X (binaryOp .Mult) (rI IntMulOk fun i j => .int (i * j)) := opI fun _ _ _ _ _ _ _ hc q => mul_int q hc
theorem op_fdivB : OpR X (binaryOp .FloorDiv) (rI CDivB fun i j => .int (i / j)) := opI fun i j _ _ _ _ _ hc q => by
  have e : i / j = i.fdiv j := (Int.fdiv_eq_ediv_of_nonneg i (Int.le_of_lt hc.1)).symm
  rw [e] at q
  exact floordiv_int (by have := hc.1; omega) q (.inl (PyProof.noPylong_of_log2 hc.2))
def rIsI (K : PySem.W.Frag) : List V → Hp → VK → Prop := fun xs H Q => ∃ x T t b, xs = [x, .ty T] ∧ TyOf K H x t ∧ PySem.W.kitOne K t (.type T) = some b ∧ Q (.bl b) H
theorem call_isI : CallR X (.builtin "isinstance") (rIsI X.K) := by
  intro pins s σ H xs us Q I r h
  obtain ⟨x, T, t, b, rfl, ty, e, q⟩ := h
  obtain ⟨u1, u2, rfl, r1, r2⟩ := Vals.two r
  cases r2
  exact isinst_ok I r1 ty e fun tk => ⟨.bl b, H, I.tok _, rfl, q⟩
end
theorem mul_l {i j : Int} (h1 : -(2 ^ 64) < i) (h2 : i < 2 ^ 64) : IntMulOk i j := .of_left (intBits_le_64 h1 h2)
theorem mul_r {i j : Int} (h1 : -(2 ^ 64) < j) (h2 : j < 2 ^ 64) : IntMulOk i j := .of_right (intBits_le_64 h1 h2)
theorem mul_b {i j : Int} {m n : Nat} (h1 : i.natAbs < 2 ^ m) (h2 : j.natAbs < 2 ^ n) (h : m + n ≤ 2 ^ 27) : IntMulOk i j := by
  have a := bits_le h1
  have b := bits_le h2
  unfold IntMulOk
  have c : Builtin.Int.intTooBig (((Builtin.Int.intBits i + Builtin.Int.intBits j : Nat) : Int)) = false := decide_eq_false (Int.not_lt.mpr (show ((Builtin.Int.intBits i + Builtin.Int.intBits j : Nat) : Int) ≤ 2 ^ 27 by omega))
  intro z
  rw [Bool.and_eq_true] at z
  have z2 := z.2
  first | (rw [show ((Builtin.Int.intBits i : Nat) : Int) + ((Builtin.Int.intBits j : Nat) : Int) = ((Builtin.Int.intBits i + Builtin.Int.intBits j : Nat) : Int) from rfl, c] at z2; cases z2) | (simp [c] at z2)
theorem kit_same {K : PySem.W.Frag} (T : String) : PySem.W.kitOne K (.type T) (.type T) = some true := by unfold PySem.W.kitOne; rw [if_pos (by simp)]
theorem kit_int_bool {K : PySem.W.Frag} : PySem.W.kitOne K (.type "int") (.type "bool") = some false := by first | rfl | decide +kernel | (unfold PySem.W.kitOne PySem.W.kitCls; decide +kernel)
theorem kit_bool_int {K : PySem.W.Frag} : PySem.W.kitOne K (.type "bool") (.type "int") = some true := by first | rfl | decide +kernel
theorem kit_non_int {K : PySem.W.Frag} : PySem.W.kitOne K (.type "NoneType") (.type "int") = some false := by first | rfl | decide +kernel
theorem kit_str_int {K : PySem.W.Frag} : PySem.W.kitOne K (.type "str") (.type "int") = some false := by first | rfl | decide +kernel
end L2
set_option Elab.async false
set_option linter.all false
set_option maxRecDepth 100000
namespace L2
open PySem PySem.Spec PyProof.Rows
theorem bo_len : bootBuiltins "len" = some (.builtin "len") := by decide +kernel
theorem bo_abs : bootBuiltins "abs" = some (.builtin "abs") := by decide +kernel
theorem bo_max : bootBuiltins "max" = some (.builtin "max") := by decide +kernel
theorem bo_sum : bootBuiltins "sum" = some (.builtin "sum") := by decide +kernel
theorem bo_all : bootBuiltins "all" = some (.builtin "all") := by decide +kernel
theorem bo_isinstance : bootBuiltins "isinstance" = some (.builtin "isinstance") := by decide +kernel
theorem bo_int : bootBuiltins "int" = some (.type "int") := by decide +kernel
theorem bo_bool : bootBuiltins "bool" = some (.type "bool") := by decide +kernel
theorem bo_list : bootBuiltins "list" = some (.type "list") := by decide +kernel
theorem bo_tuple : bootBuiltins "tuple" = some (.type "tuple") := by decide +kernel
def CPowB (i j : Int) : Prop := 0 ≤ j ∧ j ≤ 1000000 ∧ -(2 ^ 64) < i ∧ i < 2 ^ 64
section
variable {X : Cx}
theorem op_powB : OpR X (binaryOp .Pow) (rI CPowB fun i j => .int (i ^ j.toNat)) := opI fun i j _ _ _ _ _ hc q => pow_int_small hc.1 hc.2.1 (by have h1 := hc.2.2.1; have h2 := hc.2.2.2; omega) q
end
theorem w_shl1 {j : Int} : CShl 1 j = (0 ≤ j ∧ j ≤ 1000000) := propext ⟨fun h => ⟨h.1, h.2.1⟩, fun h => ⟨h.1, h.2, Nat.le_trans (bits_le (n := 1) (by decide)) (by decide)⟩⟩
theorem divB {i j : Int} (h : 0 < j) (h2 : j < 2 ^ 64) : CDivB i j := ⟨h, by
  have e : j.natAbs < 2 ^ 64 := by omega
  have e2 : j.natAbs ≠ 0 := by omega
  have := (Nat.log2_lt e2).mpr e
  omega⟩
section
variable {P : Program} {w : World} {K : PySem.W.Frag} {mg : Str → Option Value} {base : Heap}
theorem mkCal {x qual : Str} {st : Stmt} {N ps : List Str} {k : Nat} {sp : Sp} (T : ∃ (f : Addr) (fd : FuncData), Fun K x qual st f fd ∧ mg x = some (.ref f) ∧ Binds K fd ps []) (S : FnScope N ps (defScope st)) (len : ∀ vs H Q E, sp vs H Q E → vs.length = ps.length)
    (hbody : ∀ (f : Addr) (cdv : Value) (A : Around) (outer : List Env) (s : Shared) (H : Hp) (vs : List V) (Q : VK) (E : XK), Room k (A.deeper (envOfC qual (defScope st) s.heap.objs.size f cdv)) → sp vs H Q E →
      ∃ t, PSs (cxOf CX0 P w K mg base N qual (defScope st) f cdv A outer s H E).nox (defBody st) t ∧ t { nx := fun _ H' => Q .non H', rt := Q } (start N vs) H) : Cal P w K mg base (k + 1) x ps sp := by
  obtain ⟨f, fd, F, m, b⟩ := T
  exact ⟨f, fd, F.ok S len fun cdv A outer s H vs Q E hr h => hbody f cdv A outer s H vs Q E hr h, m, F.kp, b⟩
end
def Chg (p : Addr) (H H' : Hp) : Prop := ∀ b o, b ≠ p → H b = some o → H' b = some o
theorem Chg.refl {p : Addr} {H : Hp} : Chg p H H := fun _ _ _ h => h
theorem Chg.trans {p : Addr} {H H1 H2 : Hp} (a : Chg p H H1) (b : Chg p H1 H2) : Chg p H H2 := fun c o n h => b c o n (a c o n h)
theorem Same.chg {p : Addr} {H H' : Hp} (h : Same H H') : Chg p H H' := fun b o _ q => h b o q
theorem Chg.upd {p : Addr} {H : Hp} (o : HO) : Chg p H (upd H p o) := fun b u n q => by rw [upd_ne n]; exact q
theorem same_new {H : Hp} {p : Addr} (h : H p = none) (o : HO) : Same H (upd H p o) := fun b u q => by rw [upd_ne (ne_of_none q h)]; exact q
theorem Chg.same {p : Addr} {H H' : Hp} (c : Chg p H H') (h : H p = none) : Same H H' := fun b o q => c b o (ne_of_none q h) q
def Scr (K : PySem.W.Frag) (H : Hp) (a : Addr) (ns : List Int) : Prop :=
  (∃ o, H a = some (.frz o (.lst (ns.map V.int)))) ∨ (∃ (o : Obj) (its : Array Value) (n : Nat), K.lookup a = some o ∧ o.cls = .type "list" ∧ o.dict = none ∧ o.data = .seq its n ∧ its.size ≤ sizeLine ∧ Vals (ns.map V.int) its.toList)
section
variable {K : PySem.W.Frag} {H H' : Hp} {a p : Addr} {ns : List Int}
theorem Scr.sq (h : Scr K H a ns) : SqL K H a (ns.map V.int) := by
  rcases h with h | h
  · exact .inl (.inr h)
  · exact .inr h
theorem scr_of (hO : Only H) (hS : SqL K H a (ns.map V.int)) : Scr K H a ns := by
  rcases hS with (h | h) | h
  · rcases hO a with z | ⟨o, xs, z⟩
    · rw [z] at h; cases h
    · rw [z] at h; cases h
  · exact .inl h
  · exact .inr h
theorem Scr.same (h : Scr K H a ns) (s : Same H H') : Scr K H' a ns := by
  rcases h with ⟨o, h⟩ | h
  · exact .inl ⟨o, s _ _ h⟩
  · exact .inr h
theorem Scr.chg {xs : List V} (h : Scr K H a ns) (hp : H p = some (.lst xs)) (s : Chg p H H') : Scr K H' a ns := by
  rcases h with ⟨o, h⟩ | h
  · exact .inl ⟨o, s _ _ (ne_of h hp (by intro z; cases z)) h⟩
  · exact .inr h
theorem Scr.chgD {kvs : List (Key × V)} (h : Scr K H a ns) (hp : H p = some (.dK kvs)) (s : Chg p H H') : Scr K H' a ns := by
  rcases h with ⟨o, h⟩ | h
  · exact .inl ⟨o, s _ _ (ne_of h hp (by intro z; cases z)) h⟩
  · exact .inr h
end
def spLaw (K : PySem.W.Frag) : Sp := fun vs H Q _ => ∃ (a : Addr) (ns : List Int), vs = [.ref a] ∧ Scr K H a ns ∧ ns.length ≤ 63 ∧ ∀ H', Q (.bl true) H'
theorem atI_int {ns : List Int} {i : Int} (h0 : 0 ≤ i) (h1 : i < (ns.length : Int)) : ∃ v : Int, atI (ns.map V.int) i = some (.int v) ∧ ns[i.toNat]? = some v := by
  have hk : i.toNat < ns.length := by omega
  have e : i = ((i.toNat : Nat) : Int) := by omega
  have q : atI (ns.map V.int) ((i.toNat : Nat) : Int) = some (.int ns[i.toNat]) := atI_nat (by rw [List.getElem?_map, List.getElem?_eq_getElem hk] <;> rfl)
  rw [← e] at q
  exact ⟨ns[i.toNat], q, List.getElem?_eq_getElem hk⟩
def Feed (H : Hp) (p : Addr) (c : Int) : Prop := ∃ g m st : Int, H p = some (.lst [.int g, .int m, .int st]) ∧ 0 ≤ g ∧ 0 ≤ m ∧ m < 2147483423 ∧ 0 ≤ st ∧ st ≤ c
theorem Feed.mono {H : Hp} {p : Addr} {c d : Int} (h : Feed H p c) (l : c ≤ d) : Feed H p d := by
  obtain ⟨g, m, st, a, b, c, d, e, f⟩ := h
  exact ⟨g, m, st, a, b, c, d, e, by omega⟩
theorem Feed.same {H H' : Hp} {p : Addr} {c : Int} (h : Feed H p c) (s : Same H H') : Feed H' p c := by
  obtain ⟨g, m, st, a, r⟩ := h
  exact ⟨g, m, st, s _ _ a, r⟩
theorem Feed.lst {H : Hp} {p : Addr} {c : Int} (h : Feed H p c) : ∃ xs, H p = some (.lst xs) := by
  obtain ⟨g, m, st, a, r⟩ := h
  exact ⟨_, a⟩
theorem Feed.pos {H : Hp} {p : Addr} {c : Int} (h : Feed H p c) : 0 ≤ c := by
  obtain ⟨g, m, st, a, b, c, d, e, f⟩ := h
  omega
def lim : Nat → Int
  | 0 => 11
  | n + 1 => 1000000 * (lim n - 1)
def rIxM : R2 := fun x y H Q => ∃ p xs i v, x = .ref p ∧ y = .int i ∧ H p = some (.lst xs) ∧ atI xs i = some v ∧ Q v H
def rIxU : R2 := fun x y H Q => ∃ p xs i v, x = .ref p ∧ y = .int i ∧ H p = some (.tup xs) ∧ atI xs i = some v ∧ Q v H
section
variable {X : Cx}
theorem IxR.mono {r r' : R2} (h : IxR X r) (m : ∀ x y H Q, r' x y H Q → r x y H Q) : IxR X r' := fun va sl pins s σ H x y v u Q I rx ry q hs => h va sl pins s σ H x y v u Q I rx ry (m _ _ _ _ q) hs
theorem ix_M : IxR X rIxM := ix_list.mono fun x y H Q ⟨p, xs, i, v, e1, e2, h, a, q⟩ => ⟨p, xs, i, v, e1, e2, SqL.of h, a, q⟩
theorem ix_U : IxR X rIxU := ix_tup.mono fun x y H Q ⟨p, xs, i, v, e1, e2, h, a, q⟩ => ⟨p, xs, i, v, e1, e2, SqT.of h, a, q⟩
theorem CallR.mono {f : Value} {r r' : List V → Hp → VK → Prop} (h : CallR X f r) (m : ∀ xs H Q, r' xs H Q → r xs H Q) : CallR X f r' := fun pins s σ H xs us Q I rx q => h pins s σ H xs us Q I rx (m _ _ _ q)
theorem call_lenM : CallR X (.builtin "len") (fun xs H Q => ∃ p ys, xs = [.ref p] ∧ H p = some (.lst ys) ∧ Q (.int ys.length) H) := call_len_seq.mono fun xs H Q ⟨p, ys, e, h, q⟩ => ⟨p, ys, e, .inl (SqL.of h), q⟩
theorem call_lenU : CallR X (.builtin "len") (fun xs H Q => ∃ p ys, xs = [.ref p] ∧ H p = some (.tup ys) ∧ Q (.int ys.length) H) := call_len_seq.mono fun xs H Q ⟨p, ys, e, h, q⟩ => ⟨p, ys, e, .inr (SqT.of h), q⟩
theorem call_lenS : CallR X (.builtin "len") (fun xs H Q => ∃ p ys, xs = [.ref p] ∧ SqL X.K H p ys ∧ Q (.int ys.length) H) := call_len_seq.mono fun xs H Q ⟨p, ys, e, h, q⟩ => ⟨p, ys, e, .inl h, q⟩
end
section
variable {H : Hp} {Q : VK}
theorem w_ixM {p : Addr} {i : Int} : rIxM (.ref p) (.int i) H Q = ∃ xs, H p = some (.lst xs) ∧ ∃ v, atI xs i = some v ∧ Q v H :=
  propext ⟨fun ⟨p', xs, i', v, e1, e2, h, a, q⟩ => by cases e1; cases e2; exact ⟨xs, h, v, a, q⟩, fun ⟨xs, h, v, a, q⟩ => ⟨p, xs, i, v, rfl, rfl, h, a, q⟩⟩
theorem w_ixU {p : Addr} {i : Int} : rIxU (.ref p) (.int i) H Q = ∃ xs, H p = some (.tup xs) ∧ ∃ v, atI xs i = some v ∧ Q v H :=
  propext ⟨fun ⟨p', xs, i', v, e1, e2, h, a, q⟩ => by cases e1; cases e2; exact ⟨xs, h, v, a, q⟩, fun ⟨xs, h, v, a, q⟩ => ⟨p, xs, i, v, rfl, rfl, h, a, q⟩⟩
theorem w_ixL {K : PySem.W.Frag} {p : Addr} {i : Int} : rIxL K (.ref p) (.int i) H Q = ∃ xs, SqL K H p xs ∧ ∃ v, atI xs i = some v ∧ Q v H :=
  propext ⟨fun ⟨p', xs, i', v, e1, e2, h, a, q⟩ => by cases e1; cases e2; exact ⟨xs, h, v, a, q⟩, fun ⟨xs, h, v, a, q⟩ => ⟨p, xs, i, v, rfl, rfl, h, a, q⟩⟩
theorem w_setL {p : Addr} {k : Int} {v : V} {R : Hp → Prop} : rSetL (.ref p) (.int k) v H R = ∃ xs, H p = some (.lst xs) ∧ ∃ j, ixN xs.length k = some j ∧ R (upd H p (.lst (xs.set j v))) :=
  propext ⟨fun ⟨p', xs, k', j, e1, e2, h, a, q⟩ => by cases e1; cases e2; exact ⟨xs, h, j, a, q⟩, fun ⟨xs, h, j, a, q⟩ => ⟨p, xs, k, j, rfl, rfl, h, a, q⟩⟩
end
theorem at_0 {α : Type} {a : α} {l : List α} : atI (a :: l) 0 = some a := atI_nat (j := 0) rfl
theorem at_1 {α : Type} {a b : α} {l : List α} : atI (a :: b :: l) 1 = some b := atI_nat (j := 1) rfl
theorem at_2 {α : Type} {a b c : α} {l : List α} : atI (a :: b :: c :: l) 2 = some c := atI_nat (j := 2) rfl
theorem at_3 {α : Type} {a b c d : α} {l : List α} : atI (a :: b :: c :: d :: l) 3 = some d := atI_nat (j := 3) rfl
theorem ixN_0 {n : Nat} : ixN (n + 1) 0 = some 0 := by unfold ixN; rw [if_pos (Int.le_refl 0), if_pos (by omega)]; rfl
theorem ixN_1 {n : Nat} : ixN (n + 1 + 1) 1 = some 1 := by unfold ixN; rw [if_pos (by decide), if_pos (by omega)]; rfl
theorem ixN_2 {n : Nat} : ixN (n + 1 + 1 + 1) 2 = some 2 := by unfold ixN; rw [if_pos (by decide), if_pos (by omega)]; rfl
section
variable {CX : CXT} {P : Program} {w : World} {K : PySem.W.Frag} {mg : Str → Option Value} {base : Heap} {N : List Str} {qual : Str} {scope : Scope} {f : Addr} {cd : Value} {A : Around} {outer : List Env} {s : Shared} {H : Hp} {E : XK}
theorem w_cxK : (cxOf CX P w K mg base N qual scope f cd A outer s H E).K = K := rfl
end
theorem le_size {n : Nat} (h : n ≤ 1000) : n ≤ sizeLine := Nat.le_of_lt (small1000 h)
theorem sl_1 : (0 + 1 ≤ sizeLine) = True := eq_true (le_size (by decide))
theorem sl_2 : (0 + 1 + 1 ≤ sizeLine) = True := eq_true (le_size (by decide))
theorem sl_3 : (0 + 1 + 1 + 1 ≤ sizeLine) = True := eq_true (le_size (by decide))
theorem sl_4 : (0 + 1 + 1 + 1 + 1 ≤ sizeLine) = True := eq_true (le_size (by decide))
theorem sl_5 : (0 + 1 + 1 + 1 + 1 + 1 ≤ sizeLine) = True := eq_true (le_size (by decide))
theorem sl_6 : (0 + 1 + 1 + 1 + 1 + 1 + 1 ≤ sizeLine) = True := eq_true (le_size (by decide))
theorem sl_7 : (0 + 1 + 1 + 1 + 1 + 1 + 1 + 1 ≤ sizeLine) = True := eq_true (le_size (by decide))
theorem sl_8 : (0 + 1 + 1 + 1 + 1 + 1 + 1 + 1 + 1 ≤ sizeLine) = True := eq_true (le_size (by decide))
theorem sl_0 : (0 ≤ sizeLine) = True := eq_true (le_size (by decide))
theorem divq {g m : Int} (hg : 0 ≤ g) (hm : 0 < m) : 0 ≤ g / m := Int.ediv_nonneg hg (Int.le_of_lt hm)
theorem modq {g m : Int} (hm : 0 < m) : 0 ≤ g % m ∧ g % m < m := ⟨Int.emod_nonneg _ (by omega), Int.emod_lt_of_pos _ hm⟩
def ForR (lo : Int) (n : Nat) (g : TG) (tb : TS) (D : Ends) (σ : St) (H : Hp) : Prop := ∃ W : Nat → Nat → St → Hp → Prop, (∃ m, W 0 m σ H) ∧ ∀ i m σ H, W i m σ H →
  ((Itr lo n).stop i H ∧ D.nx σ H) ∨ ((Itr lo n).go i H ∧ ∃ N : St → Hp → Prop, (∀ σ' H', N σ' H' → ∃ m', m' < m ∧ W (i + 1) m' σ' H') ∧ ∀ x H', (Itr lo n).yld i H x H' → g x σ H' fun σ2 H2 => tb { D with nx := N, ct := N, bk := D.nx } σ2 H2)
def ForL (K : PySem.W.Frag) (a : Addr) (g : TG) (tb : TS) (D : Ends) (σ : St) (H : Hp) : Prop := ∃ W : Nat → Nat → St → Hp → Prop, (∃ m, W 0 m σ H) ∧ ∀ i m σ H, W i m σ H →
  ((Itl K a).stop i H ∧ D.nx σ H) ∨ ((Itl K a).go i H ∧ ∃ N : St → Hp → Prop, (∀ σ' H', N σ' H' → ∃ m', m' < m ∧ W (i + 1) m' σ' H') ∧ ∀ x H', (Itl K a).yld i H x H' → g x σ H' fun σ2 H2 => tb { D with nx := N, ct := N, bk := D.nx } σ2 H2)
def ForT (K : PySem.W.Frag) (a : Addr) (g : TG) (tb : TS) (D : Ends) (σ : St) (H : Hp) : Prop := ∃ W : Nat → Nat → St → Hp → Prop, (∃ m, W 0 m σ H) ∧ ∀ i m σ H, W i m σ H →
  ((Itt K a).stop i H ∧ D.nx σ H) ∨ ((Itt K a).go i H ∧ ∃ N : St → Hp → Prop, (∀ σ' H', N σ' H' → ∃ m', m' < m ∧ W (i + 1) m' σ' H') ∧ ∀ x H', (Itt K a).yld i H x H' → g x σ H' fun σ2 H2 => tb { D with nx := N, ct := N, bk := D.nx } σ2 H2)
section
variable {σ : St} {H : Hp} {D : Ends} {g : TG} {tb : TS} {K : PySem.W.Frag} {a : Addr}
theorem w_for1 {ta : TA} : tFor (iRng1 ta) g tb D σ H = (ta σ H fun vs H1 => ∃ j : Int, vs = [.int j] ∧ -(2 ^ 62) ≤ j ∧ j < 2 ^ 62 ∧ ForR 0 j.toNat g tb D σ H1) := rfl
theorem w_forL {tl : TE} : tFor (iList K tl) g tb D σ H = (tl σ H fun x H1 => ∃ a, x = .ref a ∧ (∃ xs, SqL K H1 a xs) ∧ ForL K a g tb D σ H1) := rfl
theorem w_forT {tl : TE} : tFor (iTup K tl) g tb D σ H = (tl σ H fun x H1 => ∃ a, x = .ref a ∧ (∃ xs, SqT K H1 a xs) ∧ ForT K a g tb D σ H1) := rfl
theorem forR {lo : Int} {n : Nat} (Pv : Nat → St → Hp → Prop) (h0 : Pv 0 σ H)
    (hs : ∀ i σ H (N : St → Hp → Prop), i < n → Pv i σ H → (∀ σ' H', Pv (i + 1) σ' H' → N σ' H') → g (.int (lo + i)) σ H fun σ2 H2 => tb { D with nx := N, ct := N, bk := D.nx } σ2 H2) (hd : ∀ σ H, Pv n σ H → D.nx σ H) : ForR lo n g tb D σ H :=
  for_range Pv h0 (fun i σ H h p => hs i σ H _ h p fun _ _ q => q) hd
theorem forL {xs : List V} (Pv : Nat → St → Hp → Prop) (h0 : Pv 0 σ H) (hl : ∀ i σ H, i ≤ xs.length → Pv i σ H → SqL K H a xs)
    (hs : ∀ i x σ H (N : St → Hp → Prop), xs[i]? = some x → Pv i σ H → (∀ σ' H', Pv (i + 1) σ' H' → N σ' H') → g x σ H fun σ2 H2 => tb { D with nx := N, ct := N, bk := D.nx } σ2 H2) (hd : ∀ σ H, Pv xs.length σ H → D.nx σ H) : ForL K a g tb D σ H := for_list Pv h0 hl (fun i x σ H h p => hs i x σ H _ h p fun _ _ q => q) hd
end
theorem Feed.ne {H : Hp} {p q : Addr} {c : Int} (hF : Feed H p c) (hq : H q = none) : q ≠ p := by
  obtain ⟨xs, h⟩ := hF.lst
  exact (ne_of_none h hq).symm
theorem Feed.new {H : Hp} {p q : Addr} {c : Int} {o : HO} (hF : Feed H p c) (hq : H q = none) : Feed (upd H q o) p c := hF.same (same_new hq _)
theorem r2 {r : Int} (h0 : 0 ≤ r) (h1 : r < 2) : r = 0 ∨ r = 1 := by omega
theorem r3 {r : Int} (h0 : 0 ≤ r) (h1 : r < 3) : r = 0 ∨ r = 1 ∨ r = 2 := by omega
theorem r4 {r : Int} (h0 : 0 ≤ r) (h1 : r < 4) : r = 0 ∨ r = 1 ∨ r = 2 ∨ r = 3 := by omega
theorem mid_of {t u : TS} {D : Ends} {σ : St} {H : Hp} (M : St → Hp → Prop) (h1 : ∀ N : St → Hp → Prop, (∀ σ H, M σ H → N σ H) → t { D with nx := N } σ H) (h2 : ∀ σ H, M σ H → u D σ H) : tMid t u D σ H := ⟨M, h1 M fun _ _ q => q, h2⟩
section
variable {K : PySem.W.Frag} {H : Hp} {Q : VK}
theorem isI_mk {x : V} {T : String} {t : Value} {b : Bool} (ty : TyOf K H x t) (u : ∀ t', TyOf K H x t' → t' = t) (k : PySem.W.kitOne K t (.type T) = some b) : rIsI K [x, .ty T] H Q = Q (.bl b) H :=
  propext ⟨fun ⟨x', T', t', b', e, ty', k', q⟩ => by
    cases e
    rw [u _ ty', k] at k'
    cases k'
    exact q, fun q => ⟨x, T, t, b, rfl, ty, k, q⟩⟩
theorem kit_non_bool : PySem.W.kitOne K (.type "NoneType") (.type "bool") = some false := by first | rfl | decide +kernel
theorem kit_str_bool : PySem.W.kitOne K (.type "str") (.type "bool") = some false := by first | rfl | decide +kernel
theorem w_isI_ii {i : Int} : rIsI K [.int i, .ty "int"] H Q = Q (.bl true) H := isI_mk (.int i) (fun _ h => by cases h; rfl) (kit_same _)
theorem w_isI_ib {i : Int} : rIsI K [.int i, .ty "bool"] H Q = Q (.bl false) H := isI_mk (.int i) (fun _ h => by cases h; rfl) kit_int_bool
theorem w_isI_bi {i : Bool} : rIsI K [.bl i, .ty "int"] H Q = Q (.bl true) H := isI_mk (.bl i) (fun _ h => by cases h; rfl) kit_bool_int
theorem w_isI_bb {i : Bool} : rIsI K [.bl i, .ty "bool"] H Q = Q (.bl true) H := isI_mk (.bl i) (fun _ h => by cases h; rfl) (kit_same _)
theorem w_isI_ni : rIsI K [.non, .ty "int"] H Q = Q (.bl false) H := isI_mk .non (fun _ h => by cases h; rfl) kit_non_int
theorem w_isI_nb : rIsI K [.non, .ty "bool"] H Q = Q (.bl false) H := isI_mk .non (fun _ h => by cases h; rfl) kit_non_bool
theorem w_isI_si {x : Str} : rIsI K [.str x, .ty "int"] H Q = Q (.bl false) H := isI_mk (.str x) (fun _ h => by cases h; rfl) kit_str_int
theorem w_isI_sb {x : Str} : rIsI K [.str x, .ty "bool"] H Q = Q (.bl false) H := isI_mk (.str x) (fun _ h => by cases h; rfl) kit_str_bool
end
theorem pow_pos2 (k : Nat) : (0 : Int) < 2 ^ k := Int.pow_pos (by decide)
end L2
set_option Elab.async false
set_option linter.all false
set_option maxRecDepth 100000
set_option maxHeartbeats 1000000
namespace L2
open PySem PySem.Spec PyProof.Rows
def closOf (scope : Scope) (env : Env) : List (Str × Addr) := (scope.names.filterMap fun x => if x.2 == .free then (env.cells.lookup x.1).map fun c => (x.1, c) else none).reverse
theorem closureFor_ok {scope : Scope} {env : Env} (h : ∀ x ∈ scope.names, x.2 = .free → ∃ c, env.cells.lookup x.1 = some c) : closureFor scope env = pure (closOf scope env) := by
  unfold closureFor closOf
  have all : ∀ (l : List (Str × NameKind)) (acc : List (Str × Addr)), (∀ x ∈ l, x.2 = .free → ∃ c, env.cells.lookup x.1 = some c) →
      (forIn l acc fun x r => (match x with | (name, kind) => if (kind == .free) = true then do let a ← cellOf env name; pure (ForInStep.yield ((name, a) :: r)) else pure (ForInStep.yield r) : Sem (ForInStep (List (Str × Addr))))) =
        pure ((l.filterMap fun x => if x.2 == .free then (env.cells.lookup x.1).map fun c => (x.1, c) else none).reverse ++ acc) := by
    intro l
    induction l with
    | nil => intro acc _; simp
    | cons x r ih =>
      intro acc hx
      obtain ⟨n, k⟩ := x
      have hr : ∀ y ∈ r, y.2 = .free → ∃ c, env.cells.lookup y.1 = some c := fun y hy => hx y (List.mem_cons_of_mem _ hy)
      by_cases hk : k = .free
      · subst hk
        obtain ⟨c, hc⟩ := hx (n, .free) List.mem_cons_self rfl
        have e1 : cellOf env n = pure c := by unfold cellOf; rw [show env.cells.lookup n = some c from hc]
        simp only [List.forIn_cons, beq_self_eq_true, if_true, e1, pure_bind, List.filterMap_cons]
        rw [ih _ hr]
        simp [show env.cells.lookup n = some c from hc]
      · have hb : (k == NameKind.free) = false := by simpa using hk
        simp only [List.forIn_cons, hb, Bool.false_eq_true, if_false, pure_bind, List.filterMap_cons]
        rw [ih _ hr]
  have := all scope.names [] h
  rw [List.append_nil] at this
  simp only [bind_pure]
  first | exact this | (rw [this]) | (simpa using this)
theorem mem_clos {scope : Scope} {env : Env} {x : Str} {c : Addr} (h : (closOf scope env).lookup x = some c) : env.cells.lookup x = some c := by
  have m := PySem.mem_of_lookup h
  unfold closOf at m
  rw [List.mem_reverse, List.mem_filterMap] at m
  obtain ⟨y, hy, e⟩ := m
  split at e
  · cases q : env.cells.lookup y.1 with
    | none => rw [q] at e; cases e
    | some d =>
      rw [q] at e
      simp only [Option.map_some, Option.some.injEq, Prod.mk.injEq] at e
      rw [← e.1, q, e.2]
  · cases e
theorem lookup_mem {α : Type} : ∀ {l : List (Str × α)} {x : Str} {c : α}, (x, c) ∈ l → ∃ d, l.lookup x = some d
  | (k, v) :: r, x, c, h => by
    rw [List.lookup_cons]
    cases hb : x == k with
    | true => exact ⟨v, rfl⟩
    | false =>
      rcases List.mem_cons.mp h with e | e
      · injection e with e1 e2
        subst e1
        simp at hb
      · exact lookup_mem e
theorem clos_has {scope : Scope} {env : Env} {x : Str} {c : Addr} (h : (x, NameKind.free) ∈ scope.names) (hc : env.cells.lookup x = some c) : (closOf scope env).lookup x = some c := by
  have m : (x, c) ∈ closOf scope env := by
    unfold closOf
    rw [List.mem_reverse, List.mem_filterMap]
    exact ⟨(x, .free), h, by simp [hc]⟩
  obtain ⟨d, hd⟩ := lookup_mem m
  have := mem_clos hd
  rw [hc] at this
  rw [hd, ← this]
theorem relabel_lookup {env : Env} : ∀ {names : List (Str × NameKind)} {x : Str} {k : NameKind},
    (names.map fun (n, k) => if (k == NameKind.free && env.scope.kind == .function && env.kindOf n == some .cell) then (n, NameKind.cell) else (n, k)).lookup x = some k →
    ∃ k0, names.lookup x = some k0 ∧ (k0 = k ∨ (k0 = .free ∧ k = .cell))
  | [], _, _, h => by simp at h
  | (n, k) :: r, x, k', h => by
    simp only [List.map_cons] at h
    by_cases hc : (k == NameKind.free && env.scope.kind == .function && env.kindOf n == some .cell) = true
    · rw [if_pos hc, List.lookup_cons] at h
      rw [List.lookup_cons]
      cases hb : x == n with
      | true =>
        rw [hb] at h
        simp only [Option.some.injEq] at h
        refine ⟨k, rfl, .inr ⟨?_, h.symm⟩⟩
        simp only [Bool.and_eq_true, beq_iff_eq] at hc
        exact hc.1.1
      | false =>
        rw [hb] at h
        exact relabel_lookup h
    · rw [if_neg hc, List.lookup_cons] at h
      rw [List.lookup_cons]
      cases hb : x == n with
      | true =>
        rw [hb] at h
        simp only [Option.some.injEq] at h
        exact ⟨k, rfl, .inl h⟩
      | false =>
        rw [hb] at h
        exact relabel_lookup h
theorem codeAny_compLoop_gen {prog : Program} {w : World} {A : Around} {R : Result → Shared → Prop} {s : Shared} {elt target iter : Expr} {ifs : List Expr} {scope : Scope} {pos : Pos} {it acc : Value} {env : Env} (I : Nat → Shared → Prop)
    (turn : ∀ n s, I n s → wpAny (model prog w) A (pyNext it) (fun r s₁ => match r with
      | none => R (.ok .next) s₁
      | some v => wpAny (model prog w) A (letOwnedTupleGo target it v) (fun _ s₁' => wpAny (model prog w) A (assign target env v) (fun _ s₂ =>
          wpAny (model prog w) A (forIn ifs true fun c r => if r = true then do let ok ← isTrue c env (eval c env); pure (ForInStep.yield ok) else pure (ForInStep.yield r)) (fun ok s₃ =>
            if ok = true then wpAny (model prog w) A (eval elt env) (fun x s₄ =>
              wpAny (model prog w) A (call (.builtin "list.append") [acc, x]) (fun _ s₅ => ∃ m, m < n ∧ I m s₅) (fun _ _ => False) s₄) (fun _ _ => False) s₃
            else ∃ m, m < n ∧ I m s₃) (fun _ _ => False) s₂) (fun _ _ => False) s₁') (fun _ _ => False) s₁) (fun _ _ => False) s)
    (n : Nat) (h : I n s) :
    codeAny (model prog w) A (.compLoop (.ListComp elt [⟨target, iter, ifs, 0⟩] scope pos) 0 it acc env) R s := by
  refine codeAny_loop rfl I (fun n s hI => ?_) n h
  show wpAny _ A ((compTurn (.ListComp elt [⟨target, iter, ifs, 0⟩] scope pos) 0 it acc env).onRaise (fun x => do noteFrame x env; theTreesLotGoes x)) _ _ s
  refine wpAny_noted ?_
  rw [compTurn_list]
  refine wpAny_bind (wpAny_standAt (wpAny_bind (wpAny_mono (turn n s hI) (fun r s₁ h₁ => ?_) fun _ _ h' => h'.elim)))
  cases r with
  | none => exact wpAny_pure h₁
  | some v =>
    refine wpAny_bind (wpAny_mono h₁ (fun _ s₁' h₁' => ?_) fun _ _ h' => h'.elim)
    refine wpAny_bind (wpAny_mono h₁' (fun _ s₂ h₂ => wpAny_bind (wpAny_mono h₂ (fun ok s₃ h₃ => ?_) fun _ _ h' => h'.elim)) fun _ _ h' => h'.elim)
    cases ok with
    | false => exact wpAny_pure ⟨rfl, h₃⟩
    | true =>
      exact wpAny_bind (wpAny_bind (wpAny_mono h₃ (fun x s₄ h₄ => wpAny_bind (wpAny_mono h₄ (fun _ s₅ h₅ => wpAny_pure (wpAny_pure ⟨rfl, h₅⟩)) fun _ _ h' => h'.elim)) fun _ _ h' => h'.elim))
def PN (X : Cx) (ifs : List Expr) (t : TT) : Prop :=
  ∀ (pins : List (Addr × Obj)) (s : Shared) (σ : St) (H : Hp) (Q : Bool → Hp → Prop), Inv X pins σ H s → t σ H Q →
    wpAny (model X.prog X.w) X.A (forIn ifs true fun c r => if r = true then do let ok ← isTrue c X.env (eval c X.env); pure (ForInStep.yield ok) else pure (ForInStep.yield r)) (TP X pins σ Q) X.xe s
def tYes : TT := fun _ H Q => Q true H
section
variable {X : Cx}
theorem pn_nil : PN X [] tYes := fun _ _ σ H Q I h => wpAny_pure ⟨H, I, h⟩
theorem pn_one {c : Expr} {t : TT} (h : PT X c t) : PN X [c] t := by
  intro pins s σ H Q I q
  refine PySem.wpAny_tests_one (h pins s σ H Q I q)
end
def compCx (X : Cx) (N : List Str) (scope : Scope) (C : Addr) (s : Shared) (H : Hp) (fp : List Addr) : Cx :=
  { X with N := N, s₀ := s, H₀ := H, env := compEnvC scope (closOf scope X.env) C X.env, outer := X.stack, stack := X.stack, ex := fp, fn := fun _ => false, pn := [], xe := fun _ _ => False }
structure CompBody (X : Cx) (tg : Expr) (ifs : List Expr) (elt : Expr) (g : TG) (tt : TT) (te : TE) : Prop where
  tg : PG X tg g
  tt : PN X ifs tt
  te : PE X elt te
def scB (sc xsc : Scope) : Bool := (sc.kind == .function) && sc.names.all fun x => (x.2 != .cell) && (x.2 != .local || sc.names.lookup x.1 == some .local) && (x.2 != .free || (xsc.names.lookup x.1 == some .cell) || (xsc.names.lookup x.1 == some .free))
def capB (cs : List Nat) (ns XN : List Str) (sc xsc : Scope) : Bool := (cs.zip ns).all fun p => (XN[p.1]? == some p.2) && (sc.names.lookup p.2 == some .free) && (xsc.names.lookup p.2 != some .local)
def capSt (nt : Nat) (cs : List Nat) (σ : St) : St := List.replicate nt none ++ cs.map fun c => (σ[c]?).join
def tComp (wi : TI) (nt : Nat) (cs : List Nat) (g : TG) (tt : TT) (te : TE) : TE := fun σ H Q => wi σ H fun J H1 => ∀ acc, H1 acc = none →
  ∃ W : Nat → Nat → List V → St → Hp → Prop, (∃ m, W 0 m [] (capSt nt cs σ) (upd H1 acc (.lst []))) ∧ ∀ i m ys σ' H', W i m ys σ' H' → H' acc = some (.lst ys) ∧
    ((J.stop i H' ∧ Q (.ref acc) H') ∨ (J.go i H' ∧ ys.length < sizeLine ∧ ∃ N : List V → St → Hp → Prop, (∀ zs σ2 H2, N zs σ2 H2 → ∃ m', m' < m ∧ W (i + 1) m' zs σ2 H2) ∧
      ∀ x H2, J.yld i H' x H2 → g x σ' H2 fun σ3 H3 => tt σ3 H3 fun b H4 => if b = true then te σ3 H4 fun y H5 => H5 acc = some (.lst ys) ∧ N (ys ++ [y]) σ3 (upd H5 acc (.lst (ys ++ [y]))) else N ys σ3 H4))
section
variable {X : Cx}
theorem compCx_inv {pins : List (Addr × Obj)} {σ : St} {H : Hp} {s : Shared} {N : List Str} {scope : Scope} {nt : Nat} {cs : List Nat} {fp : List Addr} {h1 : Heap} {tk : Nat} (I : Inv X pins σ H s)
    (hsc : scB scope X.env.scope = true) (hcap : capB cs (N.drop nt) X.N scope X.env.scope = true) (hlen : N.length = nt + cs.length)
    (hf : ∀ b ∈ fp, FpOk X pins H b) (hfl : ∀ b ∈ fp, b < s.heap.objs.size) (hn : h1.Ns s.heap.objs.size fun _ => none) (hk : ∀ b o, s.heap.get? b = some o → h1.get? b = some o) :
    Inv (compCx X N scope s.heap.objs.size s H fp) [] (capSt nt cs σ) H { s with heap := h1, toks := tk } := by
  unfold scB at hsc
  rw [Bool.and_eq_true] at hsc
  obtain ⟨hkd, hall⟩ := hsc
  have hkd : scope.kind = .function := by simpa using hkd
  rw [List.all_eq_true] at hall
  have nocell : ∀ x ∈ scope.names, x.2 ≠ .cell := fun x hx e => by have := hall x hx; rw [e] at this; simp at this
  have free2 : ∀ x, (x, NameKind.free) ∈ scope.names → X.env.kindOf x = some .cell ∨ X.env.kindOf x = some .free := fun x hx => by
    have := hall _ hx
    simp only [bne_self_eq_false, Bool.false_or, Bool.and_eq_true, Bool.or_eq_true, beq_iff_eq] at this
    exact this.2
  have kinds : ∀ x, ((compCx X N scope s.heap.objs.size s H fp).env.kindOf x = some .cell ∨ (compCx X N scope s.heap.objs.size s H fp).env.kindOf x = some .free) → (x, NameKind.free) ∈ scope.names := fun x hx => by
    have q : ∃ k, (relabel scope X.env).names.lookup x = some k ∧ (k = .cell ∨ k = .free) := by
      rcases hx with e | e
      · exact ⟨_, e, .inl rfl⟩
      · exact ⟨_, e, .inr rfl⟩
    obtain ⟨k, e, hk'⟩ := q
    obtain ⟨k0, e0, r⟩ := relabel_lookup e
    have m := PySem.mem_of_lookup e0
    rcases r with r | ⟨r, _⟩
    · subst r
      rcases hk' with z | z
      · exact absurd z (nocell _ m)
      · rw [z] at m; exact m
    · rw [r] at m; exact m
  have cellOf : ∀ x c, (closOf scope X.env).lookup x = some c → X.env.cells.lookup x = some c := fun x c e => mem_clos e
  have clt : ∀ x c, X.env.cells.lookup x = some c → c < s.heap.objs.size := fun x c e => by
    obtain ⟨v, q⟩ := I.cell x c e
    exact q.lt
  refine ⟨⟨I.ok.mod, ?_, I.ok.glob, I.ok.blt, Nat.le_refl _, ?_, ?_, ?_, I.ok.hd, I.ok.frames, .inl rfl, ?_, ?_, ?_, ?_, ?_, ?_, ?_⟩, rfl, I.bare, Un.kept hk, ⟨_, hn, ?_⟩, ?_, ?_, ?_, ?_, I.hok.kept hk, ?_⟩
  · show (relabel scope X.env).kind = _
    exact hkd
  · intro x y c e1 e2
    exact I.ok.inj x y c (cellOf x c e1) (cellOf y c e2)
  · intro x hx
    have m := kinds x hx
    obtain ⟨c, hc⟩ := I.ok.has x (free2 x m)
    exact ⟨c, clos_has m hc⟩
  · intro x c z
    cases z
  · intro b hb
    obtain ⟨f0, f1, f2, f3, f4, f5⟩ := hf b hb
    exact ⟨Nat.ne_of_lt (hfl b hb), fun x c e => f4 x c (cellOf x c e)⟩
  · intro b o e
    exact I.bs b o e
  · exact Nat.le_trans I.ok.bsz I.sz
  · intro b o e hb
    obtain ⟨f0, f1, f2, f3, f4, f5⟩ := hf b hb
    rcases f3 with z | z
    · exact I.ok.noex b o e z
    · exact absurd (Nat.lt_of_lt_of_le (Heap.lt_size (I.ok.bs b o e).1) z) (Nat.lt_irrefl _)
  · intro b hb hs
    obtain ⟨f0, f1, f2, f3, f4, f5⟩ := hf b hb
    rcases List.mem_cons.mp (I.stkSub b hs) with z | z
    · exact f1 z
    · exact f2 z
  · exact I.stack
  · exact I.stkFree
  · intro i x v e1 e2 _
    have hi : nt ≤ i := by
      refine Nat.le_of_not_lt fun z => ?_
      unfold capSt at e2
      rw [List.getElem?_append_left (by simpa using z), List.getElem?_replicate, if_pos z] at e2
      cases e2
    unfold capSt at e2
    rw [List.getElem?_append_right (by simpa using hi), List.length_replicate, List.getElem?_map] at e2
    cases q : cs[i - nt]? with
    | none => rw [q] at e2; cases e2
    | some c =>
      rw [q] at e2
      simp only [Option.map_some, Option.some.injEq] at e2
      have e3 : σ[c]? = some (some v) := by
        cases z : σ[c]? with
        | none => rw [z] at e2; cases e2
        | some o => rw [z] at e2; exact congrArg some e2
      unfold capB at hcap
      rw [List.all_eq_true] at hcap
      have e4 : (N.drop nt)[i - nt]? = some x := by
        rw [List.getElem?_drop, show nt + (i - nt) = i by omega]
        exact e1
      have m : (c, x) ∈ cs.zip (N.drop nt) := by
        have : (cs.zip (N.drop nt))[i - nt]? = some (c, x) := by rw [List.getElem?_zip_eq_some]; exact ⟨q, e4⟩
        exact List.mem_of_getElem? this
      have hm := hcap _ m
      simp only [Bool.and_eq_true, beq_iff_eq, bne_iff_ne, ne_eq] at hm
      obtain ⟨⟨h1', h2'⟩, h3'⟩ := hm
      have hlk : scope.names.lookup x = some .free := h2'
      have h2' : (x, NameKind.free) ∈ scope.names := PySem.mem_of_lookup hlk
      obtain ⟨mm, hmm, hl⟩ := I.loc
      have vis : Vis X.env.scope x := .inr (free2 x h2')
      obtain ⟨u, r, l⟩ := hl c x v h1' e3 vis
      rcases l with ⟨z, _⟩ | ⟨z, d, hd, hcell⟩
      · exact absurd z h3'
      · refine ⟨u, r, .inr ⟨?_, d, clos_has h2' hd, ?_⟩⟩
        · -- its kind in the block
          have isf : ∃ k, (relabel scope X.env).names.lookup x = some k := by
            have : ∃ k', (x, k') ∈ (relabel scope X.env).names := by
              unfold relabel
              by_cases cc : (X.env.scope.kind == .function && X.env.kindOf x == some .cell) = true
              · refine ⟨.cell, List.mem_map.mpr ⟨(x, .free), h2', ?_⟩⟩
                simp only [Bool.and_eq_true] at cc
                simp [cc.1, cc.2]
              · refine ⟨.free, List.mem_map.mpr ⟨(x, .free), h2', ?_⟩⟩
                simp only [Bool.and_eq_true] at cc
                have cc' : ¬ ((NameKind.free == NameKind.free && X.env.scope.kind == .function && X.env.kindOf x == some .cell) = true) := by
                  simp only [beq_self_eq_true, Bool.true_and, Bool.and_eq_true]
                  exact cc
                show (if (NameKind.free == NameKind.free && X.env.scope.kind == .function && X.env.kindOf x == some .cell) = true then (x, NameKind.cell) else (x, NameKind.free)) = (x, NameKind.free)
                rw [if_neg cc']
            obtain ⟨k', hk'⟩ := this
            exact lookup_mem hk'
          obtain ⟨k, ek⟩ := isf
          obtain ⟨k0, e0, rr⟩ := relabel_lookup ek
          rcases rr with rr | ⟨_, rr⟩
          · subst rr
            rw [hlk] at e0
            cases e0
            exact .inr ek
          · subst rr
            exact .inl ek
        · obtain ⟨o, ho, hd'⟩ := hcell
          exact ⟨o, hk _ _ ho, hd'⟩
  · intro x c e
    obtain ⟨v, o, ho, hd⟩ := I.cell x c (cellOf x c e)
    exact ⟨v, o, hk _ _ ho, hd⟩
  · exact I.hok.fresh (Nat.le_refl _)
  · intro x c e
    exact I.freeC x c (cellOf x c e)
  · intro p hp
    cases hp
  · show (capSt nt cs σ).length = N.length
    unfold capSt
    rw [List.length_append, List.length_replicate, List.length_map, hlen]
theorem un_same {fs ex : List Addr} {H H' : Hp} {h h1 h' : Heap} {C : Addr} (u : Un fs ex H H' h h1) (hs : Heap.SameBut C h1 h') (hC : h.objs.size ≤ C) : Un fs ex H H' h h' where
  keep := fun b o e n hb hx => (hs.2 b (Nat.ne_of_lt (Nat.lt_of_lt_of_le (Heap.lt_size e) hC))).trans (u.keep b o e n hb hx)
  slot := fun b o e n hb hx => by
    obtain ⟨sl, q⟩ := u.slot b o e n hb hx
    exact ⟨sl, (hs.2 b (Nat.ne_of_lt (Nat.lt_of_lt_of_le (Heap.lt_size e) hC))).trans q⟩
  free := u.free
  there := fun b o e hx => by
    obtain ⟨o', q⟩ := u.there b o e hx
    exact ⟨o', (hs.2 b (Nat.ne_of_lt (Nat.lt_of_lt_of_le (Heap.lt_size e) hC))).trans q⟩
  tups := u.tups
  frzs := u.frzs
  tbls := u.tbls
theorem hok_same {P : Program} {w : World} {H : Hp} {h h' : Heap} {C : Addr} (x : HOk P w H h) (hs : Heap.SameBut C h h') (hC : H C = none) : HOk P w H h' := fun b u e =>
  (x b u e).stay (fun c v hc q => (hs.2 c (fun z => by
    subst z
    rcases hc with z | z
    · subst z; rw [hC] at e; cases e
    · rw [hC] at z; cases z)).trans q) (fun _ q => q) fun _ _ q => q
theorem pe_comp0 {tg iter elt : Expr} {ifs : List Expr} {scope : Scope} {pos : Pos} {wi : TI} {N : List Str} {nt : Nat} {cs : List Nat} {g : TG} {tt : TT} {te : TE} (hc : X.calm = true) (hi : PI X tg iter wi)
    (hb : N.Nodup → ∀ (C : Addr) (s : Shared) (H : Hp) (fp : List Addr), CompBody (compCx X N scope C s H fp) tg ifs elt g tt te)
    (hnd : N.Nodup) (hsc : scB scope X.env.scope = true) (hcap : capB cs (N.drop nt) X.N scope X.env.scope = true) (hlen : N.length = nt + cs.length)
    (hs : ∀ x, foldedSetIterable iter X.env x = pure x) : PE X (.ListComp elt [⟨tg, iter, ifs, 0⟩] scope pos) (tComp wi nt cs g tt te) := by
  intro pins s σ H Q I h
  have hsc' := hsc
  unfold scB at hsc'
  rw [Bool.and_eq_true] at hsc'
  obtain ⟨hkd, hall⟩ := hsc'
  have hkd : scope.kind = .function := by simpa using hkd
  rw [List.all_eq_true] at hall
  have nocell : ∀ x ∈ scope.names, x.2 ≠ .cell := fun x hx e => by have := hall x hx; rw [e] at this; simp at this
  have hnames : ∀ x ∈ scope.names, x.2 = .local → scope.names.lookup x.1 = some .local := fun x hx e => by
    have := hall x hx
    rw [e] at this
    simp only [bne_self_eq_false, Bool.false_or, Bool.and_eq_true, beq_iff_eq] at this
    exact this.1.2
  have hclos : closureFor scope X.env = pure (closOf scope X.env) := closureFor_ok fun x hx e => by
    have := hall x hx
    rw [e] at this
    simp only [bne_self_eq_false, Bool.false_or, Bool.and_eq_true, Bool.or_eq_true, beq_iff_eq] at this
    exact I.ok.has x.1 this.2
  rw [eval_ListComp]
  refine wpAny_comprehension_free (use := none) rfl hs hclos hkd hnames (thn (hi pins s σ H _ I h) fun v s1 h1 => thn h1 fun itv s2 h2 => ?_)
  obtain ⟨it, fp, tn, J, H2, e, I2, T, st2, f2, hR⟩ := h2
  subst e
  refine wpAny_newObj_type (wpAny_newFunctionEnv nocell (by intro y hy; simp at hy) (fun h3 hn3 hs3 => ?_) hkd)
  have fr := I2.fresh
  have I3 : Inv X pins σ (upd H2 s2.heap.objs.size (.lst [])) { s2 with heap := s2.heap.push { cls := .type "list", data := .seq ([] : List Value).toArray }, toks := s2.toks } := I2.lnew .nil (le_size (by decide))
  obtain ⟨W, ⟨m0, w0⟩, turn⟩ := hR _ fr
  generalize hacc : s2.heap.objs.size = acc at *
  generalize hsx : ({ s2 with heap := s2.heap.push { cls := .type "list", data := .seq ([] : List Value).toArray }, toks := s2.toks } : Shared) = sx at *
  have hC : sx.heap.objs.size = acc + 1 := by rw [← hsx, ← hacc]; exact Heap.size_push _ _
  have fpl : ∀ b ∈ fp, b < acc := fun b hb => by
    obtain ⟨o, ho, _⟩ := T.obj _ _ st2 b hb
    rw [← hacc]
    exact Heap.lt_size ho
  have f3 : ∀ b ∈ fp, FpOk X pins (upd H2 acc (.lst [])) b := fun b hb => by
    obtain ⟨f0, f1⟩ := f2 b hb
    exact ⟨by rw [upd_ne (Nat.ne_of_lt (fpl b hb))]; exact f0, f1⟩
  have keep3 : ∀ b o, sx.heap.get? b = some o → h3.get? b = some o := fun b o e => by
    have hne : b ≠ sx.heap.objs.size := Nat.ne_of_lt (Heap.lt_size e)
    exact (hs3.2 b hne).trans (Heap.get?_push_of_some _ e)
  have IC : Inv (compCx X N scope sx.heap.objs.size sx (upd H2 acc (.lst [])) fp) [] (capSt nt cs σ) (upd H2 acc (.lst [])) { sx with heap := h3, toks := sx.toks + ([] : List (Str × Value)).length } :=
    compCx_inv I3 hsc hcap hlen f3 (fun b hb => by rw [hC]; exact Nat.lt_succ_of_lt (fpl b hb)) (by simpa using hn3) keep3
  have hn3' : H2 acc = none := fr
  generalize hXC : compCx X N scope sx.heap.objs.size sx (upd H2 acc (.lst [])) fp = XC at IC
  have ctxP : XC.prog = X.prog := by rw [← hXC]; rfl
  have ctxW : XC.w = X.w := by rw [← hXC]; rfl
  have ctxK : XC.K = X.K := by rw [← hXC]; rfl
  have ctxA : XC.A = X.A := by rw [← hXC]; rfl
  have ctxC : XC.calm = true := by rw [← hXC]; exact hc
  have ctxX : XC.xe = fun _ _ => False := by rw [← hXC]; rfl
  have ctxE : XC.env = compEnvC scope (closOf scope X.env) sx.heap.objs.size X.env := by rw [← hXC]; rfl
  have body : CompBody XC tg ifs elt g tt te := by rw [← hXC]; exact hb hnd _ _ _ _
  have st3 : tn 0 h3 := T.keep _ _ _ st2 fun b hb o e => keep3 b o (by rw [← hsx]; exact Heap.get?_push_of_some _ e)
  have stat : ∀ {H' : Hp}, (∀ b ∈ fp, H' b = none) → ∀ b ∈ fp, FpOk XC [] H' b := fun hn b hb => by
    obtain ⟨f0, f1, f2', f3', f4, f5⟩ := f3 b hb
    refine ⟨hn b hb, ?_, ?_, .inl (by rw [← hXC]; exact hb), fun x c e => ?_, fun p hp => ?_⟩
    · rw [ctxE]
      exact Nat.ne_of_lt (by rw [hC]; exact Nat.lt_succ_of_lt (fpl b hb))
    · rw [← hXC]
      intro z
      rcases List.mem_cons.mp (I3.stkSub b z) with z | z
      · exact f1 z
      · exact f2' z
    · rw [ctxE] at e
      exact f4 x c (mem_clos e)
    · rw [← hXC] at hp
      cases hp
  have fin : ∀ {σ' : St} {H' : Hp} {s' : Shared}, Inv XC [] σ' H' s' → Q (.ref acc) H' → compPost (model X.prog X.w) X.A X.xe none (EP X pins σ Q) (.ref acc) sx.heap.objs.size (.ok .next) s' := by
    intro σ' H' s' J' q
    obtain ⟨m, hm, _⟩ := J'.loc
    have hfree := J'.free
    rw [ctxE] at hm hfree
    refine ⟨m, hm, fun h' hs' => ⟨.ref acc, H', ?_, rfl, q⟩⟩
    have u := J'.base
    rw [← hXC] at u
    have ok := J'.hok
    rw [ctxP, ctxW] at ok
    have os := J'.os
    rw [← hXC] at os
    refine I3.call' (s' := { s' with heap := h' }) os (un_same u hs' (Nat.le_refl _)) (hok_same ok hs' hfree) J'.bare fun b hb => ?_
    obtain ⟨f0, f1, f2', f3', f4, f5⟩ := f3 b hb
    exact ⟨f3', f1, f4, f5⟩
  have loop : codeAny (model X.prog X.w) X.A (.compLoop (.ListComp elt [⟨tg, iter, ifs, 0⟩] scope pos) 0 (.ref it) (.ref acc) XC.env) (compPost (model X.prog X.w) X.A X.xe none (EP X pins σ Q) (.ref acc) sx.heap.objs.size)
      { sx with heap := h3, toks := sx.toks + ([] : List (Str × Value)).length } := by
    rw [← ctxP, ← ctxW, ← ctxA]
    refine codeAny_compLoop_gen (fun n s' => ∃ i ys σ' H', Inv XC [] σ' H' s' ∧ tn i s'.heap ∧ (∀ b ∈ fp, H' b = none) ∧ W i n ys σ' H') ?_ m0 ⟨0, [], _, _, IC, st3, fun b hb => (f3 b hb).1, w0⟩
    rintro n s3 ⟨i, ys, σ3, H3, I3', st3', fr3, w3⟩
    have T' := T
    rw [← ctxP, ← ctxW, ← ctxK] at T'
    obtain ⟨hacc3, alt⟩ := turn i n ys σ3 H3 w3
    rcases alt with ⟨stop, qn⟩ | ⟨go, hsz, NN, hNN, step⟩
    · refine thn (T'.done XC rfl rfl rfl ctxC i [] s3 σ3 H3 _ I3' (stat fr3) st3' stop) fun r s4 ⟨hr, I4⟩ => ?_
      subst hr
      rw [ctxP, ctxW, ctxA]
      exact fin I4 qn
    · refine thn (T'.item XC rfl rfl rfl ctxC i [] s3 σ3 H3 _ I3' (stat fr3) st3' go) fun r s4 ⟨u, hr, h4⟩ => ?_
      subst hr
      refine thn h4 fun _ s5 ⟨x, H5, I5, r5, y5, st5, fr5⟩ => ?_
      have I5' := I5.pinned (stat fr5) (T'.obj _ _ st5)
      have a1 := body.tg _ s5 σ3 H5 x u _ I5' r5 (step x H5 y5)
      rw [ctxX] at a1
      refine thn a1 fun _ s6 ⟨σ6, H6, I6, q6⟩ => ?_
      have a2 := body.tt _ s6 σ6 H6 _ I6 q6
      rw [ctxX] at a2
      refine thn a2 fun b s7 ⟨H7, I7, q7⟩ => ?_
      have again : ∀ {s8 : Shared} {σ7 : St} {H7 : Hp} {zs : List V}, Inv XC ([] ++ pinsAt fp s5.heap) σ7 H7 s8 → NN zs σ7 H7 → ∃ m, m < n ∧ ∃ i ys σ' H', Inv XC [] σ' H' s8 ∧ tn i s8.heap ∧ (∀ b ∈ fp, H' b = none) ∧ W i m ys σ' H' := fun {s8 σ7 H7 zs} I7 n7 => by
        obtain ⟨m', hm, w7⟩ := hNN zs σ7 H7 n7
        refine ⟨m', hm, i + 1, zs, σ7, H7, I7.unpinned, T'.keep _ _ _ st5 fun b hb o e => (I7.pin (b, o) (List.mem_append_right _ (List.mem_append_right _ (mem_pinsAt hb e)))).1, fun b hb => ?_, w7⟩
        obtain ⟨o, e, d⟩ := T'.obj _ _ st5 b hb
        exact (I7.pin (b, o) (List.mem_append_right _ (List.mem_append_right _ (mem_pinsAt hb e)))).2.1
      cases b with
      | false =>
        rw [if_neg Bool.false_ne_true] at q7 ⊢
        exact again I7 q7
      | true =>
        rw [if_pos rfl] at q7 ⊢
        have a3 := body.te _ s7 σ6 H7 _ I7 q7
        rw [ctxX] at a3
        refine thn a3 fun xv s8 ⟨y, H8, I8, r8, q8⟩ => ?_
        obtain ⟨hl8, n8⟩ := q8
        have a4 := mt_append (X := XC) _ s8 σ6 H8 (.ref acc) [y] (.ref acc) [xv] (fun _ H9 => NN (ys ++ [y]) σ6 H9) I8 rfl (.cons r8 .nil) ⟨acc, ys, y, rfl, rfl, hl8, hsz, n8⟩
        rw [ctxX] at a4
        refine thn a4 fun _ s9 ⟨_, H9, I9, _, q9⟩ => ?_
        exact again I9 q9
  rw [ctxE] at loop
  exact codeAny_compStart_list loop (T.self X.A 0 _ _ _ st3 loop)
theorem ps_setComp0 {y : Str} {py spos : Pos} {ix : Nat} {tg iter elt : Expr} {ifs : List Expr} {scope : Scope} {pos : Pos} {wi : TI} {N : List Str} {nt : Nat} {cs : List Nat} {g : TG} {tt : TT} {te : TE} (hc : X.calm = true) (hi : PI X tg iter wi)
    (hb : N.Nodup → ∀ (C : Addr) (s : Shared) (H : Hp) (fp : List Addr), CompBody (compCx X N scope C s H fp) tg ifs elt g tt te)
    (hnd : N.Nodup) (hsc : scB scope X.env.scope = true) (hcap : capB cs (N.drop nt) X.N scope X.env.scope = true) (hlen : N.length = nt + cs.length)
    (hs : ∀ x, foldedSetIterable iter X.env x = pure x) (hN : X.N.Nodup) (hix : X.N[ix]? = some y) (hy : Loc X.env.scope y) (hf : X.fn y = true ∨ X.env.scope.names.lookup y = some .local)
    (hsw : swapsWith (.ListComp elt [⟨tg, iter, ifs, 0⟩] scope pos) (some (.Name y py)) spos.line X.env = pure true) : PS X (.Assign [.Name y py] (.ListComp elt [⟨tg, iter, ifs, 0⟩] scope pos) spos) (tAsg (tComp wi nt cs g tt te) (gName ix)) := by
  intro pins s σ H D I h
  have hsc' := hsc
  unfold scB at hsc'
  rw [Bool.and_eq_true] at hsc'
  obtain ⟨hkd, hall⟩ := hsc'
  have hkd : scope.kind = .function := by simpa using hkd
  rw [List.all_eq_true] at hall
  have nocell : ∀ x ∈ scope.names, x.2 ≠ .cell := fun x hx e => by have := hall x hx; rw [e] at this; simp at this
  have hnames : ∀ x ∈ scope.names, x.2 = .local → scope.names.lookup x.1 = some .local := fun x hx e => by
    have := hall x hx
    rw [e] at this
    simp only [bne_self_eq_false, Bool.false_or, Bool.and_eq_true, beq_iff_eq] at this
    exact this.1.2
  have hclos : closureFor scope X.env = pure (closOf scope X.env) := closureFor_ok fun x hx e => by
    have := hall x hx
    rw [e] at this
    simp only [bne_self_eq_false, Bool.false_or, Bool.and_eq_true, Bool.or_eq_true, beq_iff_eq] at this
    exact I.ok.has x.1 this.2
  rw [exec_Assign_Name_used _ _ _ _ hsw]
  refine wpAny_bind (wpAny_standAt (wpAny_bind ?_))
  show wpAny _ X.A (do let _ ← comprehension (.ListComp elt [⟨tg, iter, ifs, 0⟩] scope pos) scope X.env _ (newList []) false (eval iter X.env) (some (assign (.Name y py) X.env))) _ _ s
  refine wpAny_bind (wpAny_mono (wpAny_comprehension_free (use := some (assign (.Name y py) X.env)) (Q := fun _ s' => SP X pins D .next s') rfl hs hclos hkd hnames
    (thn (hi pins s σ H _ I h) fun v s1 h1 => thn h1 fun itv s2 h2 => ?_)) (fun _ s' hq => wpAny_pure (wpAny_pure hq)) fun _ _ e => e)
  obtain ⟨it, fp, tn, J, H2, e, I2, T, st2, f2, hR⟩ := h2
  subst e
  refine wpAny_newObj_type (wpAny_newFunctionEnv nocell (by intro y hy; simp at hy) (fun h3 hn3 hs3 => ?_) hkd)
  have fr := I2.fresh
  have I3 : Inv X pins σ (upd H2 s2.heap.objs.size (.lst [])) { s2 with heap := s2.heap.push { cls := .type "list", data := .seq ([] : List Value).toArray }, toks := s2.toks } := I2.lnew .nil (le_size (by decide))
  obtain ⟨W, ⟨m0, w0⟩, turn⟩ := hR _ fr
  generalize hacc : s2.heap.objs.size = acc at *
  generalize hsx : ({ s2 with heap := s2.heap.push { cls := .type "list", data := .seq ([] : List Value).toArray }, toks := s2.toks } : Shared) = sx at *
  have hC : sx.heap.objs.size = acc + 1 := by rw [← hsx, ← hacc]; exact Heap.size_push _ _
  have fpl : ∀ b ∈ fp, b < acc := fun b hb => by
    obtain ⟨o, ho, _⟩ := T.obj _ _ st2 b hb
    rw [← hacc]
    exact Heap.lt_size ho
  have f3 : ∀ b ∈ fp, FpOk X pins (upd H2 acc (.lst [])) b := fun b hb => by
    obtain ⟨f0, f1⟩ := f2 b hb
    exact ⟨by rw [upd_ne (Nat.ne_of_lt (fpl b hb))]; exact f0, f1⟩
  have keep3 : ∀ b o, sx.heap.get? b = some o → h3.get? b = some o := fun b o e => by
    have hne : b ≠ sx.heap.objs.size := Nat.ne_of_lt (Heap.lt_size e)
    exact (hs3.2 b hne).trans (Heap.get?_push_of_some _ e)
  have IC : Inv (compCx X N scope sx.heap.objs.size sx (upd H2 acc (.lst [])) fp) [] (capSt nt cs σ) (upd H2 acc (.lst [])) { sx with heap := h3, toks := sx.toks + ([] : List (Str × Value)).length } :=
    compCx_inv I3 hsc hcap hlen f3 (fun b hb => by rw [hC]; exact Nat.lt_succ_of_lt (fpl b hb)) (by simpa using hn3) keep3
  have hn3' : H2 acc = none := fr
  generalize hXC : compCx X N scope sx.heap.objs.size sx (upd H2 acc (.lst [])) fp = XC at IC
  have ctxP : XC.prog = X.prog := by rw [← hXC]; rfl
  have ctxW : XC.w = X.w := by rw [← hXC]; rfl
  have ctxK : XC.K = X.K := by rw [← hXC]; rfl
  have ctxA : XC.A = X.A := by rw [← hXC]; rfl
  have ctxC : XC.calm = true := by rw [← hXC]; exact hc
  have ctxX : XC.xe = fun _ _ => False := by rw [← hXC]; rfl
  have ctxE : XC.env = compEnvC scope (closOf scope X.env) sx.heap.objs.size X.env := by rw [← hXC]; rfl
  have body : CompBody XC tg ifs elt g tt te := by rw [← hXC]; exact hb hnd _ _ _ _
  have st3 : tn 0 h3 := T.keep _ _ _ st2 fun b hb o e => keep3 b o (by rw [← hsx]; exact Heap.get?_push_of_some _ e)
  have stat : ∀ {H' : Hp}, (∀ b ∈ fp, H' b = none) → ∀ b ∈ fp, FpOk XC [] H' b := fun hn b hb => by
    obtain ⟨f0, f1, f2', f3', f4, f5⟩ := f3 b hb
    refine ⟨hn b hb, ?_, ?_, .inl (by rw [← hXC]; exact hb), fun x c e => ?_, fun p hp => ?_⟩
    · rw [ctxE]
      exact Nat.ne_of_lt (by rw [hC]; exact Nat.lt_succ_of_lt (fpl b hb))
    · rw [← hXC]
      intro z
      rcases List.mem_cons.mp (I3.stkSub b z) with z | z
      · exact f1 z
      · exact f2' z
    · rw [ctxE] at e
      exact f4 x c (mem_clos e)
    · rw [← hXC] at hp
      cases hp
  have fin : ∀ {σ' : St} {H' : Hp} {s' : Shared}, Inv XC [] σ' H' s' → D.nx (σ.set ix (some (.ref acc))) H' → compPost (model X.prog X.w) X.A X.xe (some (assign (.Name y py) X.env)) (fun _ s' => SP X pins D .next s') (.ref acc) sx.heap.objs.size (.ok .next) s' := by
    intro σ' H' s' J' q
    obtain ⟨m, hm, _⟩ := J'.loc
    have hfree := J'.free
    rw [ctxE] at hm hfree
    have u := J'.base
    rw [← hXC] at u
    have ok := J'.hok
    rw [ctxP, ctxW] at ok
    have os := J'.os
    rw [← hXC] at os
    have IX : Inv X pins σ H' s' := I3.call' os u ok J'.bare fun b hb => by
      obtain ⟨f0, f1, f2', f3', f4, f5⟩ := f3 b hb
      exact ⟨f3', f1, f4, f5⟩
    have hCL : sx.heap.objs.size ≠ X.env.locals := Nat.ne_of_gt I3.lt
    have hCc : ∀ x c, X.env.cells.lookup x = some c → c ≠ sx.heap.objs.size := fun x c e => by
      obtain ⟨v, z⟩ := I3.cell x c e
      exact Nat.ne_of_lt z.lt
    have hCp : ∀ p ∈ X.pn ++ pins, p.1 ≠ sx.heap.objs.size := fun p hp => Nat.ne_of_lt (Heap.lt_size (I3.pin p hp).1)
    show wpAny _ X.A (assign (.Name y py) X.env (.ref acc)) _ _ s'
    refine wpAny_assign_Name (store_ok2 IX hN hix hy (v := .ref acc) rfl (fun s'' I'' ⟨a, hsb, ha⟩ => ?_) hf)
    have hCa : sx.heap.objs.size ≠ a := fun z => by
      rcases ha with e | e
      · exact hCL (z.trans e)
      · exact hCc _ _ e z.symm
    refine ⟨m, hm.sameBut hsb hCa, fun h' hs' => ⟨_, H', ?_, q⟩⟩
    exact I''.turned (t' := s''.toks) (fun b o hb e => (hs'.2 b hb).trans e) hfree hCL (.inr I3.sz) hCc hCp
  have loop : codeAny (model X.prog X.w) X.A (.compLoop (.ListComp elt [⟨tg, iter, ifs, 0⟩] scope pos) 0 (.ref it) (.ref acc) XC.env) (compPost (model X.prog X.w) X.A X.xe (some (assign (.Name y py) X.env)) (fun _ s' => SP X pins D .next s') (.ref acc) sx.heap.objs.size)
      { sx with heap := h3, toks := sx.toks + ([] : List (Str × Value)).length } := by
    rw [← ctxP, ← ctxW, ← ctxA]
    refine codeAny_compLoop_gen (fun n s' => ∃ i ys σ' H', Inv XC [] σ' H' s' ∧ tn i s'.heap ∧ (∀ b ∈ fp, H' b = none) ∧ W i n ys σ' H') ?_ m0 ⟨0, [], _, _, IC, st3, fun b hb => (f3 b hb).1, w0⟩
    rintro n s3 ⟨i, ys, σ3, H3, I3', st3', fr3, w3⟩
    have T' := T
    rw [← ctxP, ← ctxW, ← ctxK] at T'
    obtain ⟨hacc3, alt⟩ := turn i n ys σ3 H3 w3
    rcases alt with ⟨stop, qn⟩ | ⟨go, hsz, NN, hNN, step⟩
    · refine thn (T'.done XC rfl rfl rfl ctxC i [] s3 σ3 H3 _ I3' (stat fr3) st3' stop) fun r s4 ⟨hr, I4⟩ => ?_
      subst hr
      rw [ctxP, ctxW, ctxA]
      exact fin I4 qn
    · refine thn (T'.item XC rfl rfl rfl ctxC i [] s3 σ3 H3 _ I3' (stat fr3) st3' go) fun r s4 ⟨u, hr, h4⟩ => ?_
      subst hr
      refine thn h4 fun _ s5 ⟨x, H5, I5, r5, y5, st5, fr5⟩ => ?_
      have I5' := I5.pinned (stat fr5) (T'.obj _ _ st5)
      have a1 := body.tg _ s5 σ3 H5 x u _ I5' r5 (step x H5 y5)
      rw [ctxX] at a1
      refine thn a1 fun _ s6 ⟨σ6, H6, I6, q6⟩ => ?_
      have a2 := body.tt _ s6 σ6 H6 _ I6 q6
      rw [ctxX] at a2
      refine thn a2 fun b s7 ⟨H7, I7, q7⟩ => ?_
      have again : ∀ {s8 : Shared} {σ7 : St} {H7 : Hp} {zs : List V}, Inv XC ([] ++ pinsAt fp s5.heap) σ7 H7 s8 → NN zs σ7 H7 → ∃ m, m < n ∧ ∃ i ys σ' H', Inv XC [] σ' H' s8 ∧ tn i s8.heap ∧ (∀ b ∈ fp, H' b = none) ∧ W i m ys σ' H' := fun {s8 σ7 H7 zs} I7 n7 => by
        obtain ⟨m', hm, w7⟩ := hNN zs σ7 H7 n7
        refine ⟨m', hm, i + 1, zs, σ7, H7, I7.unpinned, T'.keep _ _ _ st5 fun b hb o e => (I7.pin (b, o) (List.mem_append_right _ (List.mem_append_right _ (mem_pinsAt hb e)))).1, fun b hb => ?_, w7⟩
        obtain ⟨o, e, d⟩ := T'.obj _ _ st5 b hb
        exact (I7.pin (b, o) (List.mem_append_right _ (List.mem_append_right _ (mem_pinsAt hb e)))).2.1
      cases b with
      | false =>
        rw [if_neg Bool.false_ne_true] at q7 ⊢
        exact again I7 q7
      | true =>
        rw [if_pos rfl] at q7 ⊢
        have a3 := body.te _ s7 σ6 H7 _ I7 q7
        rw [ctxX] at a3
        refine thn a3 fun xv s8 ⟨y, H8, I8, r8, q8⟩ => ?_
        obtain ⟨hl8, n8⟩ := q8
        have a4 := mt_append (X := XC) _ s8 σ6 H8 (.ref acc) [y] (.ref acc) [xv] (fun _ H9 => NN (ys ++ [y]) σ6 H9) I8 rfl (.cons r8 .nil) ⟨acc, ys, y, rfl, rfl, hl8, hsz, n8⟩
        rw [ctxX] at a4
        refine thn a4 fun _ s9 ⟨_, H9, I9, _, q9⟩ => ?_
        exact again I9 q9
  rw [ctxE] at loop
  exact codeAny_compStart_list loop (T.self X.A 0 _ _ _ st3 loop)
end
end L2
set_option Elab.async false
set_option linter.all false
set_option maxRecDepth 100000
set_option maxHeartbeats 1000000
namespace L2
open PySem PySem.Spec PyProof.Rows
inductive Dt where
  | f (x : V)
  | l (xs : List Dt)
  | t (xs : List Dt)
mutual
def Is (K : PySem.W.Frag) (H : Hp) (x : V) : Dt → Prop
  | .f y => x = y ∧ flatV y = true
  | .l ds => ∃ p xs, x = .ref p ∧ SqL K H p xs ∧ IsL K H xs ds
  | .t ds => ∃ p xs, x = .ref p ∧ SqT K H p xs ∧ IsL K H xs ds
def IsL (K : PySem.W.Frag) (H : Hp) (xs : List V) : List Dt → Prop
  | [] => xs = []
  | d :: ds => ∃ x r, xs = x :: r ∧ Is K H x d ∧ IsL K H r ds
end
mutual
def deq : Dt → Dt → Bool
  | .f x, .f y => eqV x y
  | .l xs, .l ys => deqL xs ys
  | .t xs, .t ys => deqL xs ys
  | _, _ => false
def deqL : List Dt → List Dt → Bool
  | [], [] => true
  | x :: xs, y :: ys => deq x y && deqL xs ys
  | _, _ => false
end
mutual
def dep : Dt → Nat
  | .f _ => 0
  | .l xs => depL xs + 1
  | .t xs => depL xs + 1
def depL : List Dt → Nat
  | [] => 0
  | d :: ds => max (dep d) (depL ds)
end
theorem IsL.len {K : PySem.W.Frag} {H : Hp} : ∀ {ds : List Dt} {xs : List V}, IsL K H xs ds → xs.length = ds.length
  | [], xs, h => by rw [IsL] at h; subst h; rfl
  | d :: ds, xs, h => by
    rw [IsL] at h
    obtain ⟨x, r, rfl, _, h⟩ := h
    rw [List.length_cons, List.length_cons, IsL.len h]
theorem IsL.get {K : PySem.W.Frag} {H : Hp} : ∀ {ds : List Dt} {xs : List V} {j : Nat} {x : V}, IsL K H xs ds → xs[j]? = some x → ∃ d, ds[j]? = some d ∧ Is K H x d
  | [], xs, j, x, h, e => by rw [IsL] at h; subst h; simp at e
  | d :: ds, xs, j, x, h, e => by
    rw [IsL] at h
    obtain ⟨y, r, rfl, hy, h⟩ := h
    cases j with
    | zero => simp at e; subst e; exact ⟨d, rfl, hy⟩
    | succ j => exact IsL.get (j := j) h (by simpa using e)
theorem depL_mem {ds : List Dt} : ∀ {d : Dt} {j : Nat}, ds[j]? = some d → dep d ≤ depL ds := by
  induction ds with
  | nil => intro d j e; simp at e
  | cons a r ih =>
    intro d j e
    rw [depL]
    cases j with
    | zero => simp at e; subst e; omega
    | succ j => have := ih (d := d) (j := j) (by simpa using e); omega
mutual
theorem deq_refl : ∀ (d : Dt) {K : PySem.W.Frag} {H : Hp} {x : V}, Is K H x d → deq d d = true
  | .f y, K, H, x, h => by
    rw [Is] at h
    rw [deq]
    have hy := h.2
    cases y <;> first | (simp [eqV]; done) | (exact absurd hy (by decide)) | (cases hy)
  | .l ds, K, H, x, h => by
    rw [Is] at h
    obtain ⟨p, xs, _, _, h⟩ := h
    rw [deq]
    exact deqL_refl ds h
  | .t ds, K, H, x, h => by
    rw [Is] at h
    obtain ⟨p, xs, _, _, h⟩ := h
    rw [deq]
    exact deqL_refl ds h
theorem deqL_refl : ∀ (ds : List Dt) {K : PySem.W.Frag} {H : Hp} {xs : List V}, IsL K H xs ds → deqL ds ds = true
  | [], _, _, _, _ => by rw [deqL]
  | d :: ds, K, H, xs, h => by
    rw [IsL] at h
    obtain ⟨y, r, _, hy, h⟩ := h
    rw [deqL, deq_refl d hy, deqL_refl ds h]
    rfl
end
theorem deqL_get : ∀ {ds es : List Dt}, deqL ds es = (decide (ds.length = es.length) && (List.range ds.length).all fun j => match ds[j]?, es[j]? with | some d, some e => deq d e | _, _ => false)
  | [], [] => by simp [deqL]
  | [], e :: es => by simp [deqL]
  | d :: ds, [] => by simp [deqL]
  | d :: ds, e :: es => by
    rw [deqL, deqL_get]
    have r : List.range (d :: ds).length = 0 :: (List.range ds.length).map (· + 1) := by rw [List.length_cons, List.range_succ_eq_map]
    rw [r, List.all_cons, List.all_map]
    simp only [List.getElem?_cons_zero, List.length_cons, Nat.add_right_cancel_iff]
    have c : ((fun j => match (d :: ds)[j]?, (e :: es)[j]? with | some d, some e => deq d e | _, _ => false) ∘ fun x => x + 1) = (fun j => match ds[j]?, es[j]? with | some d, some e => deq d e | _, _ => false) := by
      funext j
      simp
    rw [c]
    cases deq d e <;> cases decide (ds.length = es.length) <;> rfl
section
variable {X : Cx} {pins : List (Addr × Obj)} {σ : St} {H : Hp} {s : Shared}
mutual
theorem Is.inj : ∀ (d : Dt) {e : Dt} {x : V}, Inv X pins σ H s → Is X.K H x d → Is X.K H x e → (∀ p xs ys, SqL X.K H p xs → ¬ SqT X.K H p ys) → d = e
  | .f y, e, x, I, h, h', hk => by
    rw [Is] at h
    obtain ⟨rfl, hy⟩ := h
    cases e with
    | f z => rw [Is] at h'; rw [h'.1]
    | l ds => rw [Is] at h'; obtain ⟨p, xs, e, _⟩ := h'; subst e; cases hy
    | t ds => rw [Is] at h'; obtain ⟨p, xs, e, _⟩ := h'; subst e; cases hy
  | .l ds, e, x, I, h, h', hk => by
    rw [Is] at h
    obtain ⟨p, xs, rfl, hs, h⟩ := h
    cases e with
    | f z => rw [Is] at h'; obtain ⟨e, hz⟩ := h'; subst e; cases hz
    | l es =>
      rw [Is] at h'
      obtain ⟨q, ys, e, hs', h'⟩ := h'
      cases e
      rw [I.list_inj hs' hs] at h'
      rw [IsL.inj ds I h h' hk]
    | t es =>
      rw [Is] at h'
      obtain ⟨q, ys, e, hs', h'⟩ := h'
      cases e
      exact absurd hs' (hk _ _ _ hs)
  | .t ds, e, x, I, h, h', hk => by
    rw [Is] at h
    obtain ⟨p, xs, rfl, hs, h⟩ := h
    cases e with
    | f z => rw [Is] at h'; obtain ⟨e, hz⟩ := h'; subst e; cases hz
    | l es =>
      rw [Is] at h'
      obtain ⟨q, ys, e, hs', h'⟩ := h'
      cases e
      exact absurd hs (hk _ _ _ hs')
    | t es =>
      rw [Is] at h'
      obtain ⟨q, ys, e, hs', h'⟩ := h'
      cases e
      rw [I.tuple_inj hs' hs] at h'
      rw [IsL.inj ds I h h' hk]
theorem IsL.inj : ∀ (ds : List Dt) {es : List Dt} {xs : List V}, Inv X pins σ H s → IsL X.K H xs ds → IsL X.K H xs es → (∀ p xs ys, SqL X.K H p xs → ¬ SqT X.K H p ys) → ds = es
  | [], es, xs, I, h, h', hk => by
    rw [IsL] at h
    subst h
    cases es with
    | nil => rfl
    | cons e es => rw [IsL] at h'; obtain ⟨_, _, e, _⟩ := h'; cases e
  | d :: ds, es, xs, I, h, h', hk => by
    rw [IsL] at h
    obtain ⟨y, r, rfl, hy, h⟩ := h
    cases es with
    | nil => rw [IsL] at h'; cases h'
    | cons e es =>
      rw [IsL] at h'
      obtain ⟨y', r', e1, hy', h'⟩ := h'
      cases e1
      rw [Is.inj d I hy hy' hk, IsL.inj ds I h h' hk]
end
theorem Inv.apart (I : Inv X pins σ H s) : ∀ p xs ys, SqL X.K H p xs → ¬ SqT X.K H p ys := fun p xs ys h h' => by
  obtain ⟨its, _, ⟨o, n, e, c, _⟩, _⟩ := I.list h
  obtain ⟨its', _, ⟨o', e', c', _⟩, _⟩ := I.tuple h'
  rw [e] at e'
  cases e'
  rw [c] at c'
  exact absurd c' (by decide)
theorem eqAt_F {x : V} (e : Dt) {A : Around} {y : V} {u v : Value} (hu : A.units < cLine) (I : Inv X pins σ H s) (fx : flatV x = true) (hy : Is X.K H y e) (rx : RelV x u) (ry : RelV y v) : SeqAt.EqAt A s u v (deq (.f x) e) := by
  cases e with
  | f y' =>
    rw [Is] at hy
    obtain ⟨rfl, fy⟩ := hy
    rw [deq]
    exact eqAt_V rx ry fx fy
  | l ds =>
    rw [Is] at hy
    obtain ⟨p, ys, rfl, hs, _⟩ := hy
    cases ry
    obtain ⟨its, _, pl, _⟩ := I.list hs
    have hl := pl.isList
    rw [show deq (.f x) (.l ds) = false by rw [deq]; all_goals (intros; simp_all)]
    cases x with
    | non => cases rx; exact SeqAt.EqAt.none_list hl hu
    | bl b => cases rx; exact SeqAt.EqAt.bool_list b hl hu
    | int i => obtain ⟨t, rfl⟩ := rx; exact SeqAt.EqAt.int_list i t hl hu
    | str z => obtain ⟨t, rfl⟩ := rx; exact SeqAt.EqAt.str_list z t hl hu
    | _ => cases fx
  | t ds =>
    rw [Is] at hy
    obtain ⟨p, ys, rfl, hs, _⟩ := hy
    cases ry
    obtain ⟨its, _, pl, _⟩ := I.tuple hs
    have hl : s.heap.IsTuple p its.toArray := pl
    rw [show deq (.f x) (.t ds) = false by rw [deq]; all_goals (intros; simp_all)]
    cases x with
    | non => cases rx; exact SeqAt.EqAt.none_tuple hl hu
    | bl b => cases rx; exact SeqAt.EqAt.bool_tuple b hl hu
    | int i => obtain ⟨t, rfl⟩ := rx; exact SeqAt.EqAt.int_tuple i t hl hu
    | str z => obtain ⟨t, rfl⟩ := rx; exact SeqAt.EqAt.str_tuple z t hl hu
    | _ => cases fx
def deqAt (ds es : List Dt) (j : Nat) : Bool := match ds[j]?, es[j]? with | some d, some e => deq d e | _, _ => false
theorem elems {n : Nat} {A : Around} (ih : ∀ (d e : Dt) {A : Around} {x y : V} {u v : Value}, dep d ≤ n → A.units + n < cLine → Inv X pins σ H s → Is X.K H x d → Is X.K H y e → RelV x u → RelV y v → SeqAt.EqAt A s u v (deq d e)) (hu : A.units + (n + 1) < cLine) (I : Inv X pins σ H s)
    {ds es : List Dt} {xs ys : List V} {its its' : List Value} (hd : depL ds ≤ n) (hx : IsL X.K H xs ds) (hy : IsL X.K H ys es) (rx : Vals xs its) (ry : Vals ys its') :
    ∀ j (h1 : j < its.toArray.size) (h2 : j < its'.toArray.size), SeqAt.EqAt A.in1 s its.toArray[j] its'.toArray[j] (deqAt ds es j) := by
  intro j h1 h2
  have l1 := rx.length
  have l2 := ry.length
  have k1 : j < xs.length := by simpa [l1] using h1
  have k2 : j < ys.length := by simpa [l2] using h2
  obtain ⟨d, e1, q1⟩ := hx.get (List.getElem?_eq_getElem k1)
  obtain ⟨e, e2, q2⟩ := hy.get (List.getElem?_eq_getElem k2)
  obtain ⟨u, hu', ru⟩ := rx.get (List.getElem?_eq_getElem k1)
  obtain ⟨v, hv', rv⟩ := ry.get (List.getElem?_eq_getElem k2)
  have f1 : its.toArray[j] = u := by
    have : its[j]? = some its.toArray[j] := by simp
    rw [hu'] at this
    exact (Option.some.inj this).symm
  have f2 : its'.toArray[j] = v := by
    have : its'[j]? = some its'.toArray[j] := by simp
    rw [hv'] at this
    exact (Option.some.inj this).symm
  rw [f1, f2]
  unfold deqAt
  rw [e1, e2]
  exact ih d e (Nat.le_trans (depL_mem e1) hd) (by rw [Around.in1_units]; omega) I q1 q2 ru rv
theorem all_deqAt {ds es : List Dt} (h : ds.length = es.length) : (List.range ds.length).all (deqAt ds es) = deqL ds es := by
  rw [deqL_get, decide_eq_true h, Bool.true_and]
  rfl
theorem deqL_ne {ds es : List Dt} (h : ds.length ≠ es.length) : deqL ds es = false := by
  rw [deqL_get, decide_eq_false h, Bool.false_and]
theorem rcAt_D : ∀ (n : Nat) (d e : Dt) {A : Around} {x y : V} {u v : Value}, dep d ≤ n → A.units + n < cLine → Inv X pins σ H s → Is X.K H x d → Is X.K H y e → RelV x u → RelV y v → SeqAt.EqAt A s u v (deq d e) ∧ (∀ p, x = .ref p → SeqAt.RcAt A s u v (deq d e))
  | n, .f x', e, A, x, y, u, v, hn, hu, I, hx, hy, rx, ry => by
    rw [Is] at hx
    obtain ⟨rfl, fx⟩ := hx
    exact ⟨eqAt_F e (by omega) I fx hy rx ry, fun p e => by subst e; cases fx⟩
  | 0, .l ds, e, A, x, y, u, v, hn, hu, I, hx, hy, rx, ry => by rw [dep] at hn; omega
  | 0, .t ds, e, A, x, y, u, v, hn, hu, I, hx, hy, rx, ry => by rw [dep] at hn; omega
  | n + 1, .l ds, e, A, x, y, u, v, hn, hu, I, hx, hy, rx, ry => by
    rw [dep] at hn
    have hx0 := hx
    rw [Is] at hx
    obtain ⟨p, xs, rfl, hs, hxs⟩ := hx
    cases rx
    obtain ⟨its, rv, pl, _⟩ := I.list hs
    have hl := pl.isList
    have hu' : A.units < cLine := by omega
    have ih := fun (d e : Dt) {A : Around} {x y : V} {u v : Value} (a : dep d ≤ n) (b : A.units + n < cLine) (c : Inv X pins σ H s) (f : Is X.K H x d) (g : Is X.K H y e) (h : RelV x u) (i : RelV y v) => (rcAt_D n d e a b c f g h i).1
    cases e with
    | f y' =>
      rw [Is] at hy
      obtain ⟨rfl, fy⟩ := hy
      rw [show deq (.l ds) (.f y) = false by rw [deq]; all_goals (intros; simp_all)]
      cases y with
      | non => cases ry; exact ⟨SeqAt.EqAt.list_none hl hu', fun _ _ => SeqAt.RcAt.list_none hl hu'⟩
      | bl b => cases ry; exact ⟨SeqAt.EqAt.list_bool b hl hu', fun _ _ => SeqAt.RcAt.list_bool b hl hu'⟩
      | int i => obtain ⟨t, rfl⟩ := ry; exact ⟨SeqAt.EqAt.list_int i t hl hu', fun _ _ => SeqAt.RcAt.list_int i t hl hu'⟩
      | str z => obtain ⟨t, rfl⟩ := ry; exact ⟨SeqAt.EqAt.list_str z t hl hu', fun _ _ => SeqAt.RcAt.list_str z t hl hu'⟩
      | _ => cases fy
    | l es =>
      have hy0 := hy
      rw [Is] at hy
      obtain ⟨q, ys, rfl, hs', hys⟩ := hy
      cases ry
      obtain ⟨its', rv', pl', _⟩ := I.list hs'
      have hl' := pl'.isList
      have e1 : its.toArray.size = ds.length := by rw [List.size_toArray, ← rv.length, hxs.len]
      have e2 : its'.toArray.size = es.length := by rw [List.size_toArray, ← rv'.length, hys.len]
      have rc : SeqAt.RcAt A s (.ref p) (.ref q) (deq (.l ds) (.l es)) := by
        rw [deq]
        by_cases hz : ds.length = es.length
        · have := SeqAt.RcAt.lists hl hl' (by omega) hu' (elems ih hu I (by omega) hxs hys rv rv')
          rw [e1, all_deqAt hz] at this
          exact this
        · rw [deqL_ne hz]
          exact SeqAt.RcAt.lists_lengths hl hl' (by rw [bne_iff_ne]; omega) hu'
      refine ⟨?_, fun _ _ => rc⟩
      by_cases hpq : p = q
      · subst hpq
        have := Is.inj _ I hx0 hy0 I.apart
        rw [← this, deq_refl _ hx0]
        exact SeqAt.EqAt.same _
      · exact SeqAt.EqAt.of_refs hpq rc
    | t es =>
      rw [Is] at hy
      obtain ⟨q, ys, rfl, hs', hys⟩ := hy
      cases ry
      obtain ⟨its', rv', pl', _⟩ := I.tuple hs'
      have hl' : s.heap.IsTuple q its'.toArray := pl'
      rw [show deq (.l ds) (.t es) = false by rw [deq]; all_goals (intros; simp_all)]
      exact ⟨SeqAt.EqAt.list_tuple hl hl' hu', fun _ _ => SeqAt.RcAt.list_tuple hl hl' hu'⟩
  | n + 1, .t ds, e, A, x, y, u, v, hn, hu, I, hx, hy, rx, ry => by
    rw [dep] at hn
    have hx0 := hx
    rw [Is] at hx
    obtain ⟨p, xs, rfl, hs, hxs⟩ := hx
    cases rx
    obtain ⟨its, rv, pl, _⟩ := I.tuple hs
    have hl : s.heap.IsTuple p its.toArray := pl
    have hu' : A.units < cLine := by omega
    have ih := fun (d e : Dt) {A : Around} {x y : V} {u v : Value} (a : dep d ≤ n) (b : A.units + n < cLine) (c : Inv X pins σ H s) (f : Is X.K H x d) (g : Is X.K H y e) (h : RelV x u) (i : RelV y v) => (rcAt_D n d e a b c f g h i).1
    cases e with
    | f y' =>
      rw [Is] at hy
      obtain ⟨rfl, fy⟩ := hy
      rw [show deq (.t ds) (.f y) = false by rw [deq]; all_goals (intros; simp_all)]
      cases y with
      | non => cases ry; exact ⟨SeqAt.EqAt.tuple_none hl hu', fun _ _ => SeqAt.RcAt.tuple_none hl hu'⟩
      | bl b => cases ry; exact ⟨SeqAt.EqAt.tuple_bool b hl hu', fun _ _ => SeqAt.RcAt.tuple_bool b hl hu'⟩
      | int i => obtain ⟨t, rfl⟩ := ry; exact ⟨SeqAt.EqAt.tuple_int i t hl hu', fun _ _ => SeqAt.RcAt.tuple_int i t hl hu'⟩
      | str z => obtain ⟨t, rfl⟩ := ry; exact ⟨SeqAt.EqAt.tuple_str z t hl hu', fun _ _ => SeqAt.RcAt.tuple_str z t hl hu'⟩
      | _ => cases fy
    | l es =>
      rw [Is] at hy
      obtain ⟨q, ys, rfl, hs', hys⟩ := hy
      cases ry
      obtain ⟨its', rv', pl', _⟩ := I.list hs'
      have hl' := pl'.isList
      rw [show deq (.t ds) (.l es) = false by rw [deq]; all_goals (intros; simp_all)]
      exact ⟨SeqAt.EqAt.tuple_list hl hl' hu', fun _ _ => SeqAt.RcAt.tuple_list hl hl' hu'⟩
    | t es =>
      have hy0 := hy
      rw [Is] at hy
      obtain ⟨q, ys, rfl, hs', hys⟩ := hy
      cases ry
      obtain ⟨its', rv', pl', _⟩ := I.tuple hs'
      have hl' : s.heap.IsTuple q its'.toArray := pl'
      have e1 : its.toArray.size = ds.length := by rw [List.size_toArray, ← rv.length, hxs.len]
      have e2 : its'.toArray.size = es.length := by rw [List.size_toArray, ← rv'.length, hys.len]
      have rc : SeqAt.RcAt A s (.ref p) (.ref q) (deq (.t ds) (.t es)) := by
        rw [deq]
        have := SeqAt.RcAt.tuples hl hl' hu' (elems ih hu I (by omega) hxs hys rv rv')
        rw [e1, e2] at this
        by_cases hz : ds.length = es.length
        · rw [← hz, Nat.min_self, all_deqAt hz, beq_self_eq_true, Bool.and_true] at this
          exact this
        · rw [deqL_ne hz]
          have : (ds.length == es.length) = false := by simpa using hz
          simp_all
      refine ⟨?_, fun _ _ => rc⟩
      by_cases hpq : p = q
      · subst hpq
        have := Is.inj _ I hx0 hy0 I.apart
        rw [← this, deq_refl _ hx0]
        exact SeqAt.EqAt.same _
      · exact SeqAt.EqAt.of_refs hpq rc
end
def rEqD (K : PySem.W.Frag) : R2 := fun x y H Q => ∃ p d e, x = .ref p ∧ Is K H x d ∧ Is K H y e ∧ dep d ≤ 50 ∧ Q (.bl (deq d e)) H
def rNeD (K : PySem.W.Frag) : R2 := fun x y H Q => ∃ p d e, x = .ref p ∧ Is K H x d ∧ Is K H y e ∧ dep d ≤ 50 ∧ Q (.bl (!deq d e)) H
section
variable {X : Cx}
theorem op_eqD {k : Nat} (hr : Room k X.A) : OpR X (compareOp .Eq) (rEqD X.K) := by
  intro pins s σ H x y v u Q I rx ry h
  obtain ⟨p, d, e, rfl, hx, hy, hd, q⟩ := h
  have := (rcAt_D 50 d e (A := X.A) hd (by have := hr.units; omega) I hx hy rx ry).2 p rfl
  exact this X.prog X.w X.xe _ ⟨.bl _, H, I, rfl, q⟩
end
end L2
set_option Elab.async false
set_option linter.all false
set_option maxRecDepth 100000
set_option maxHeartbeats 1000000
namespace L2
open PySem PySem.Spec PyProof.Rows
section
variable {X : Cx} {pins : List (Addr × Obj)} {σ : St} {H : Hp} {s : Shared}
theorem ih50 (n : Nat) (d e : Dt) {A : Around} {x y : V} {u v : Value} (a : dep d ≤ n) (b : A.units + n < cLine) (c : Inv X pins σ H s) (f : Is X.K H x d) (g : Is X.K H y e) (h : RelV x u) (i : RelV y v) : SeqAt.EqAt A s u v (deq d e) := (rcAt_D n d e a b c f g h i).1
theorem neAt_D (n : Nat) (d e : Dt) {A : Around} {p : Addr} {y : V} {v : Value} (hn : dep d ≤ n + 1) (hu : A.units + (n + 1) < cLine) (I : Inv X pins σ H s) (hx : Is X.K H (.ref p) d) (hy : Is X.K H y e) (ry : RelV y v) : SeqAt.RcNeAt A s (.ref p) v (!deq d e) := by
  have hu' : A.units < cLine := by omega
  cases d with
  | f x => rw [Is] at hx; obtain ⟨e, hz⟩ := hx; subst e; cases hz
  | l ds =>
    rw [dep] at hn
    rw [Is] at hx
    obtain ⟨p', xs, e0, hs, hxs⟩ := hx
    cases e0
    obtain ⟨its, rv, pl, _⟩ := I.list hs
    have hl := pl.isList
    cases e with
    | f y' =>
      rw [Is] at hy
      obtain ⟨rfl, fy⟩ := hy
      rw [show deq (.l ds) (.f y) = false by rw [deq]; all_goals (intros; simp_all)]
      cases y with
      | non => cases ry; exact SeqAt.RcNeAt.list_none hl hu'
      | bl b => cases ry; exact SeqAt.RcNeAt.list_bool b hl hu'
      | int i => obtain ⟨t, rfl⟩ := ry; exact SeqAt.RcNeAt.list_int i t hl hu'
      | str z => obtain ⟨t, rfl⟩ := ry; exact SeqAt.RcNeAt.list_str z t hl hu'
      | _ => cases fy
    | l es =>
      rw [Is] at hy
      obtain ⟨q, ys, rfl, hs', hys⟩ := hy
      cases ry
      obtain ⟨its', rv', pl', _⟩ := I.list hs'
      have hl' := pl'.isList
      have e1 : its.toArray.size = ds.length := by rw [List.size_toArray, ← rv.length, hxs.len]
      have e2 : its'.toArray.size = es.length := by rw [List.size_toArray, ← rv'.length, hys.len]
      rw [deq]
      by_cases hz : ds.length = es.length
      · have := SeqAt.RcNeAt.lists hl hl' (by omega) hu' (elems (ih50 n) hu I (by omega) hxs hys rv rv')
        rw [e1, all_deqAt hz] at this
        exact this
      · rw [deqL_ne hz]
        exact SeqAt.RcNeAt.lists_lengths hl hl' (by rw [bne_iff_ne]; omega) hu'
    | t es =>
      rw [Is] at hy
      obtain ⟨q, ys, rfl, hs', hys⟩ := hy
      cases ry
      obtain ⟨its', rv', pl', _⟩ := I.tuple hs'
      have hl' : s.heap.IsTuple q its'.toArray := pl'
      rw [show deq (.l ds) (.t es) = false by rw [deq]; all_goals (intros; simp_all)]
      exact SeqAt.RcNeAt.list_tuple hl hl' hu'
  | t ds =>
    rw [dep] at hn
    rw [Is] at hx
    obtain ⟨p', xs, e0, hs, hxs⟩ := hx
    cases e0
    obtain ⟨its, rv, pl, _⟩ := I.tuple hs
    have hl : s.heap.IsTuple p its.toArray := pl
    cases e with
    | f y' =>
      rw [Is] at hy
      obtain ⟨rfl, fy⟩ := hy
      rw [show deq (.t ds) (.f y) = false by rw [deq]; all_goals (intros; simp_all)]
      cases y with
      | non => cases ry; exact SeqAt.RcNeAt.tuple_none hl hu'
      | bl b => cases ry; exact SeqAt.RcNeAt.tuple_bool b hl hu'
      | int i => obtain ⟨t, rfl⟩ := ry; exact SeqAt.RcNeAt.tuple_int i t hl hu'
      | str z => obtain ⟨t, rfl⟩ := ry; exact SeqAt.RcNeAt.tuple_str z t hl hu'
      | _ => cases fy
    | l es =>
      rw [Is] at hy
      obtain ⟨q, ys, rfl, hs', hys⟩ := hy
      cases ry
      obtain ⟨its', rv', pl', _⟩ := I.list hs'
      have hl' := pl'.isList
      rw [show deq (.t ds) (.l es) = false by rw [deq]; all_goals (intros; simp_all)]
      exact SeqAt.RcNeAt.tuple_list hl hl' hu'
    | t es =>
      rw [Is] at hy
      obtain ⟨q, ys, rfl, hs', hys⟩ := hy
      cases ry
      obtain ⟨its', rv', pl', _⟩ := I.tuple hs'
      have hl' : s.heap.IsTuple q its'.toArray := pl'
      have e1 : its.toArray.size = ds.length := by rw [List.size_toArray, ← rv.length, hxs.len]
      have e2 : its'.toArray.size = es.length := by rw [List.size_toArray, ← rv'.length, hys.len]
      rw [deq]
      have := SeqAt.RcNeAt.tuples hl hl' hu' (elems (ih50 n) hu I (by omega) hxs hys rv rv')
      rw [e1, e2] at this
      by_cases hz : ds.length = es.length
      · rw [← hz, Nat.min_self, all_deqAt hz, beq_self_eq_true, Bool.and_true] at this
        exact this
      · rw [deqL_ne hz]
        have : (ds.length == es.length) = false := by simpa using hz
        simp_all
end
section
variable {X : Cx}
theorem op_neD {k : Nat} (hr : Room k X.A) : OpR X (compareOp .NotEq) (rNeD X.K) := by
  intro pins s σ H x y v u Q I rx ry h
  obtain ⟨p, d, e, rfl, hx, hy, hd, q⟩ := h
  cases rx
  have := neAt_D 50 d e (A := X.A) (by omega) (by have := hr.units; omega) I hx hy ry
  exact this X.prog X.w X.xe _ ⟨.bl _, H, I, rfl, q⟩
end
theorem isL_flat {K : PySem.W.Frag} {H : Hp} : ∀ {xs : List V}, xs.all flatV = true → IsL K H xs (xs.map Dt.f)
  | [], _ => by rw [List.map_nil, IsL]
  | x :: r, h => by
    rw [List.all_cons, Bool.and_eq_true] at h
    rw [List.map_cons, IsL]
    exact ⟨x, r, rfl, by rw [Is]; exact ⟨rfl, h.1⟩, isL_flat h.2⟩
theorem is_lst {K : PySem.W.Frag} {H : Hp} {p : Addr} {xs : List V} (h : SqL K H p xs) (f : xs.all flatV = true) : Is K H (.ref p) (.l (xs.map Dt.f)) := by rw [Is]; exact ⟨p, xs, rfl, h, isL_flat f⟩
theorem is_tup {K : PySem.W.Frag} {H : Hp} {p : Addr} {xs : List V} (h : SqT K H p xs) (f : xs.all flatV = true) : Is K H (.ref p) (.t (xs.map Dt.f)) := by rw [Is]; exact ⟨p, xs, rfl, h, isL_flat f⟩
theorem depL_flat : ∀ {xs : List V}, depL (xs.map Dt.f) = 0
  | [] => by rw [List.map_nil, depL]
  | x :: r => by rw [List.map_cons, depL, depL_flat, dep]; rfl
theorem dep_l {xs : List V} : dep (.l (xs.map Dt.f)) = 1 := by rw [dep, depL_flat]
theorem dep_t {xs : List V} : dep (.t (xs.map Dt.f)) = 1 := by rw [dep, depL_flat]
theorem flat_ints (ns : List Int) : (ns.map V.int).all flatV = true := by rw [List.all_map]; simp [flatV]
theorem deqL_ints : ∀ (ns ms : List Int), deqL ((ns.map V.int).map Dt.f) ((ms.map V.int).map Dt.f) = decide (ns = ms)
  | [], [] => by simp [deqL]
  | [], m :: ms => by simp [deqL]
  | n :: ns, [] => by simp [deqL]
  | n :: ns, m :: ms => by
    rw [List.map_cons, List.map_cons, List.map_cons, List.map_cons, deqL, deqL_ints ns ms, deq]
    by_cases h1 : n = m <;> by_cases h2 : ns = ms <;> simp [eqV, h1, h2]
theorem deq_lints (ns ms : List Int) : deq (.l ((ns.map V.int).map Dt.f)) (.l ((ms.map V.int).map Dt.f)) = decide (ns = ms) := by rw [deq, deqL_ints]
theorem deq_tints (ns ms : List Int) : deq (.t ((ns.map V.int).map Dt.f)) (.t ((ms.map V.int).map Dt.f)) = decide (ns = ms) := by rw [deq, deqL_ints]
theorem neLI {K : PySem.W.Frag} {H : Hp} {p q : Addr} {ns ms : List Int} {Q : VK} (h1 : SqL K H p (ns.map V.int)) (h2 : SqL K H q (ms.map V.int)) (h : Q (.bl (!decide (ns = ms))) H) : rNeD K (.ref p) (.ref q) H Q :=
  ⟨p, _, _, rfl, is_lst h1 (flat_ints _), is_lst h2 (flat_ints _), by rw [dep_l]; decide, by rw [deq_lints]; exact h⟩
theorem eqTI {K : PySem.W.Frag} {H : Hp} {p q : Addr} {ns ms : List Int} {Q : VK} (h1 : SqT K H p (ns.map V.int)) (h2 : SqT K H q (ms.map V.int)) (h : Q (.bl (decide (ns = ms))) H) : rEqD K (.ref p) (.ref q) H Q :=
  ⟨p, _, _, rfl, is_tup h1 (flat_ints _), is_tup h2 (flat_ints _), by rw [dep_t]; decide, by rw [deq_tints]; exact h⟩
def CompIt (J : It) (nt : Nat) (cs : List Nat) (g : TG) (tt : TT) (te : TE) (σ : St) (H1 : Hp) (Q : VK) : Prop := ∀ acc, H1 acc = none →
  ∃ W : Nat → Nat → List V → St → Hp → Prop, (∃ m, W 0 m [] (capSt nt cs σ) (upd H1 acc (.lst []))) ∧ ∀ i m ys σ' H', W i m ys σ' H' → H' acc = some (.lst ys) ∧
    ((J.stop i H' ∧ Q (.ref acc) H') ∨ (J.go i H' ∧ ys.length < sizeLine ∧ ∃ N : List V → St → Hp → Prop, (∀ zs σ2 H2, N zs σ2 H2 → ∃ m', m' < m ∧ W (i + 1) m' zs σ2 H2) ∧
      ∀ x H2, J.yld i H' x H2 → g x σ' H2 fun σ3 H3 => tt σ3 H3 fun b H4 => if b = true then te σ3 H4 fun y H5 => H5 acc = some (.lst ys) ∧ N (ys ++ [y]) σ3 (upd H5 acc (.lst (ys ++ [y]))) else N ys σ3 H4))
section
variable {K : PySem.W.Frag} {σ : St} {H : Hp} {Q : VK} {nt : Nat} {cs : List Nat} {g : TG} {tt : TT} {te : TE} {a : Addr}
theorem w_compL {tl : TE} : tComp (iList K tl) nt cs g tt te σ H Q = (tl σ H fun x H1 => ∃ a, x = .ref a ∧ (∃ xs, SqL K H1 a xs) ∧ CompIt (Itl K a) nt cs g tt te σ H1 Q) := rfl
theorem w_compT {tl : TE} : tComp (iTup K tl) nt cs g tt te σ H Q = (tl σ H fun x H1 => ∃ a, x = .ref a ∧ (∃ xs, SqT K H1 a xs) ∧ CompIt (Itt K a) nt cs g tt te σ H1 Q) := rfl
theorem w_comp1 {ta : TA} : tComp (iRng1 ta) nt cs g tt te σ H Q = (ta σ H fun vs H1 => ∃ j : Int, vs = [.int j] ∧ -(2 ^ 62) ≤ j ∧ j < 2 ^ 62 ∧ CompIt (Itr 0 j.toNat) nt cs g tt te σ H1 Q) := rfl
theorem w_yes {R : Bool → Hp → Prop} : tYes σ H R = R true H := rfl
def capV (cs : List Nat) (σ : St) : St := cs.map fun c => (σ[c]?).join
theorem comp_inv {J : It} {xs : List V} (Pv : Addr → Nat → List V → Hp → Prop) (hz : xs.length ≤ sizeLine)
    (hgo : ∀ acc i ys H', i < xs.length → Pv acc i ys H' → J.go i H') (hyl : ∀ acc i ys H' x H2, Pv acc i ys H' → J.yld i H' x H2 → H2 = H' ∧ xs[i]? = some x) (hst : ∀ acc ys H', Pv acc xs.length ys H' → J.stop xs.length H')
    (h0 : ∀ acc, H acc = none → Pv acc 0 [] (upd H acc (.lst []))) (hacc : ∀ acc i ys H', Pv acc i ys H' → H' acc = some (.lst ys) ∧ ys.length ≤ i)
    (hs : ∀ acc i ys H' x (R : Option V → Hp → Prop), H acc = none → xs[i]? = some x → Pv acc i ys H' → (∀ y H5, H5 acc = some (.lst ys) → Pv acc (i + 1) (ys ++ [y]) (upd H5 acc (.lst (ys ++ [y]))) → R (some y) H5) → (∀ H5, Pv acc (i + 1) ys H5 → R none H5) →
      tt (some x :: capV cs σ) H' fun b H4 => if b = true then te (some x :: capV cs σ) H4 fun y H5 => R (some y) H5 else R none H4)
    (hd : ∀ acc ys H', H acc = none → Pv acc xs.length ys H' → Q (.ref acc) H') : CompIt J 1 cs (gName 0) tt te σ H Q := by
  intro acc hn
  refine ⟨fun i m ys σ' H' => m = xs.length - i ∧ i ≤ xs.length ∧ (∃ o, σ' = o :: capV cs σ) ∧ Pv acc i ys H', ⟨_, rfl, Nat.zero_le _, ⟨none, rfl⟩, h0 acc hn⟩, ?_⟩
  rintro i m ys σ' H' ⟨rfl, hi, ⟨o, rfl⟩, p⟩
  obtain ⟨ha, hl⟩ := hacc acc i ys H' p
  refine ⟨ha, ?_⟩
  by_cases hlt : i < xs.length
  · refine .inr ⟨hgo acc i ys H' hlt p, by omega, fun zs σ2 H2 => (∃ o, σ2 = o :: capV cs σ) ∧ Pv acc (i + 1) zs H2, fun zs σ2 H2 ⟨q1, q2⟩ => ⟨xs.length - (i + 1), by omega, rfl, hlt, q1, q2⟩, fun x H2 y => ?_⟩
    obtain ⟨e, hx⟩ := hyl acc i ys H' x H2 p y
    subst e
    show tt (some x :: capV cs σ) _ _
    exact hs acc i ys _ x (fun o H5 => match o with | some y => H5 acc = some (.lst ys) ∧ (∃ o, some x :: capV cs σ = o :: capV cs σ) ∧ Pv acc (i + 1) (ys ++ [y]) (upd H5 acc (.lst (ys ++ [y]))) | none => (∃ o, some x :: capV cs σ = o :: capV cs σ) ∧ Pv acc (i + 1) ys H5) hn hx p
      (fun y H5 z1 z2 => ⟨z1, ⟨_, rfl⟩, z2⟩) (fun H5 z => ⟨⟨_, rfl⟩, z⟩)
  · have e : i = xs.length := by omega
    subst e
    exact .inl ⟨hst acc ys H' p, hd acc ys H' hn p⟩
theorem comp_pure {J : It} {xs : List V} (f : V → Option V) (hz : xs.length ≤ sizeLine)
    (hJ : ∀ H', Same H H' → (∀ i, i < xs.length → J.go i H') ∧ (∀ i x H2, J.yld i H' x H2 → H2 = H' ∧ (i < xs.length → xs[i]? = some x)) ∧ J.stop xs.length H')
    (hb : ∀ x H' (R : Option V → Hp → Prop), x ∈ xs → Same H H' → R (f x) H' → tt (some x :: capV cs σ) H' fun b H4 => if b = true then te (some x :: capV cs σ) H4 fun y H5 => R (some y) H5 else R none H4)
    (hd : ∀ acc, H acc = none → Q (.ref acc) (upd H acc (.lst (xs.filterMap f)))) : CompIt J 1 cs (gName 0) tt te σ H Q := by
  intro acc hn
  have sm : ∀ ys, Same H (upd H acc (.lst ys)) := fun ys => same_new hn _
  refine ⟨fun i m ys σ' H' => m = xs.length - i ∧ i ≤ xs.length ∧ (∃ o, σ' = o :: capV cs σ) ∧ ys = (xs.take i).filterMap f ∧ H' = upd H acc (.lst ys), ⟨_, rfl, Nat.zero_le _, ⟨none, rfl⟩, by simp, rfl⟩, ?_⟩
  rintro i m ys σ' H' ⟨rfl, hi, ⟨o, rfl⟩, hys, rfl⟩
  refine ⟨upd_same, ?_⟩
  have hl : ys.length ≤ i := by
    rw [hys]
    exact Nat.le_trans (List.length_filterMap_le _ _) (by rw [List.length_take]; omega)
  by_cases hlt : i < xs.length
  · refine .inr ⟨(hJ _ (sm ys)).1 i hlt, by omega, fun zs σ2 H2 => (∃ o, σ2 = o :: capV cs σ) ∧ zs = (xs.take (i + 1)).filterMap f ∧ H2 = upd H acc (.lst zs), fun zs σ2 H2 ⟨q1, q2, q3⟩ => ⟨xs.length - (i + 1), by omega, rfl, hlt, q1, q2, q3⟩, fun x H2 y => ?_⟩
    obtain ⟨e, hx⟩ := (hJ _ (sm ys)).2.1 i x H2 y
    have hx := hx hlt
    subst e
    show tt (some x :: capV cs σ) _ _
    have tk : xs.take (i + 1) = xs.take i ++ [x] := by rw [List.take_add_one, hx]; rfl
    refine hb x _ (fun o H5 => match o with | some y => H5 acc = some (.lst ys) ∧ (∃ o, some x :: capV cs σ = o :: capV cs σ) ∧ ys ++ [y] = (xs.take (i + 1)).filterMap f ∧ upd H5 acc (.lst (ys ++ [y])) = upd H acc (.lst (ys ++ [y])) | none => (∃ o, some x :: capV cs σ = o :: capV cs σ) ∧ ys = (xs.take (i + 1)).filterMap f ∧ H5 = upd H acc (.lst ys)) (List.mem_of_getElem? hx) (sm ys) ?_
    cases hf : f x with
    | none =>
      refine ⟨⟨_, rfl⟩, ?_, rfl⟩
      rw [tk, List.filterMap_append, ← hys]
      simp [hf]
    | some y =>
      refine ⟨upd_same, ⟨_, rfl⟩, ?_, upd_upd⟩
      rw [tk, List.filterMap_append, ← hys]
      simp [hf]
  · have e : i = xs.length := by omega
    subst e
    rw [List.take_length] at hys
    subst hys
    exact .inl ⟨(hJ _ (sm _)).2.2, hd acc hn⟩
theorem comp_L {xs : List V} (h : SqL K H a xs) (hz : xs.length ≤ sizeLine) (f : V → Option V)
    (hb : ∀ x H' (R : Option V → Hp → Prop), x ∈ xs → Same H H' → R (f x) H' → tt (some x :: capV cs σ) H' fun b H4 => if b = true then te (some x :: capV cs σ) H4 fun y H5 => R (some y) H5 else R none H4)
    (hd : ∀ acc, H acc = none → Q (.ref acc) (upd H acc (.lst (xs.filterMap f)))) : CompIt (Itl K a) 1 cs (gName 0) tt te σ H Q :=
  comp_pure f hz (fun H' s => by
    have h' := s.seq h
    exact ⟨fun i hi => ⟨xs, xs[i], h', by simp [hi]⟩, fun i x H2 y => ⟨y.1, fun _ => y.2 xs h'⟩, ⟨xs, h', Nat.le_refl _⟩⟩) hb hd
theorem Same.seqT {K : PySem.W.Frag} {H H' : Hp} {a : Addr} {xs : List V} (e : Same H H') (h : SqT K H a xs) : SqT K H' a xs := by
  rcases h with (h | ⟨o, h⟩) | h
  · exact .inl (.inl (e _ _ h))
  · exact .inl (.inr ⟨o, e _ _ h⟩)
  · exact .inr h
theorem comp_T {xs : List V} (h : SqT K H a xs) (hz : xs.length ≤ sizeLine) (f : V → Option V)
    (hb : ∀ x H' (R : Option V → Hp → Prop), x ∈ xs → Same H H' → R (f x) H' → tt (some x :: capV cs σ) H' fun b H4 => if b = true then te (some x :: capV cs σ) H4 fun y H5 => R (some y) H5 else R none H4)
    (hd : ∀ acc, H acc = none → Q (.ref acc) (upd H acc (.lst (xs.filterMap f)))) : CompIt (Itt K a) 1 cs (gName 0) tt te σ H Q :=
  comp_pure f hz (fun H' s => by
    have h' := s.seqT h
    exact ⟨fun i hi => ⟨xs, xs[i], h', by simp [hi]⟩, fun i x H2 y => ⟨y.1, fun _ => y.2 xs h'⟩, ⟨xs, h', Nat.le_refl _⟩⟩) hb hd
def rngV (lo : Int) (n : Nat) : List V := (List.range n).map fun (i : Nat) => V.int (lo + (i : Int))
end
end L2
set_option Elab.async false
set_option linter.all false
set_option maxRecDepth 100000
set_option maxHeartbeats 1000000
namespace L2
open PySem PySem.Spec PyProof.Rows
section
variable {X : Cx}
theorem vals_bools : ∀ {bs : List Bool} {us : List Value}, Vals (bs.map V.bl) us → us = bs.map Value.bool
  | [], _, h => by cases h; rfl
  | b :: r, _, h => by
    cases h with
    | cons q t =>
      cases q
      rw [vals_bools t]
      rfl
theorem truth_bools {prog : Program} {w : World} {A : Around} {bs : List Bool} : TruthOf prog w A (fun i v => (bs.map Value.bool).toArray[i]? = some v) (fun i => bs.getD i true) := by
  intro i v s Q E h hq
  rw [List.getElem?_toArray, List.getElem?_map] at h
  cases e : bs[i]? with
  | none => rw [e] at h; cases h
  | some b =>
    rw [e] at h
    cases h
    have : bs.getD i true = b := by simp [List.getD, e]
    exact wpAny_truthy_bool (by rw [← this]; exact hq)
theorem all_getD : ∀ (bs : List Bool), (List.range bs.length).all (fun i => bs.getD i true) = bs.all id
  | [] => rfl
  | b :: r => by
    rw [List.length_cons, List.range_succ_eq_map, List.all_cons, List.all_map, List.all_cons]
    have : ((fun i => (b :: r).getD i true) ∘ Nat.succ) = fun i => r.getD i true := by funext i; simp [List.getD]
    rw [this, all_getD r]
    rfl
def rAll : List V → Hp → VK → Prop := fun xs H Q => ∃ (p : Addr) (bs : List Bool), xs = [.ref p] ∧ H p = some (.lst (bs.map V.bl)) ∧ Q (.bl (bs.all id)) H
theorem walk_list {pins : List (Addr × Obj)} {σ : St} {H : Hp} {s : Shared} {p : Addr} {xs : List V} (hc : X.calm = true) (I : Inv X pins σ H s) (hp : H p = some (.lst xs)) {Q : Value → Shared → Prop} {E : Value → Shared → Prop}
    (h : ∀ (its : List Value), Vals xs its → ∀ s2 : Shared, s2.heap.IsListIter s.heap.objs.size p 0 ∧ s2.heap.IsList p its.toArray → (∀ b ∈ [s.heap.objs.size, p], b < s2.heap.objs.size) → p ≠ s.heap.objs.size → Walks X.prog X.w X.A.in1 s.heap.objs.size [s.heap.objs.size, p] [s.heap.objs.size] its.toArray.size (fun i v => its.toArray[i]? = some v) (fun i h => h.IsListIter s.heap.objs.size p i ∧ h.IsList p its.toArray) →
      (∀ h' tk, (∀ b o, b ∉ [s.heap.objs.size] → s2.heap.get? b = some o → h'.get? b = some o) → Inv X pins σ H { s2 with heap := h', toks := tk }) → Q (.ref s.heap.objs.size) s2) : wpAny (model X.prog X.w) X.A.in1 (pyIter (.ref p)) Q E s := by
  obtain ⟨its, rv, pl, _⟩ := I.list (SqL.of hp)
  have hlt : p < s.heap.objs.size := I.hok.lt hp
  refine wpAny_pyIter_list pl.isList (h its rv _ ⟨⟨_, Heap.get?_push_size _ rfl, rfl, rfl⟩, pl.isList.push _⟩ (fun b hb => ?_) (Nat.ne_of_lt hlt) (Walks.list (A := X.A.in1) (I.ok.hd hc) _ p (Nat.ne_of_lt hlt) its.toArray) fun h' tk hk => ?_)
  · show b < (s.heap.push _).objs.size
    rw [Heap.size_push]
    rcases List.mem_cons.mp hb with e | e
    · rw [e]; exact Nat.lt_succ_self _
    · have : b = p := by simpa using e
      rw [this]; exact Nat.lt_succ_of_lt hlt
  · exact I.kept (h' := h') (t' := tk) fun b o e => hk b o (by simpa using Nat.ne_of_lt (Heap.lt_size e)) (Heap.get?_push_of_some _ e)
theorem call_all (hc : X.calm = true) : CallR X (.builtin "all") rAll := by
  intro pins s σ H xs us Q I r h
  obtain ⟨p, bs, rfl, hp, q⟩ := h
  obtain ⟨u, rfl, ru⟩ := Vals.one r
  cases ru
  refine call_all_walk (walk_list hc I hp fun its rv s2 st hfp hne W hI => ?_)
  have e := vals_bools rv
  subst e
  refine ⟨_, _, _, _, _, _, _, rfl, W, st, truth_bools, fun h' tk hk => ⟨.bl (bs.all id), H, hI h' tk hk, ?_, q⟩⟩
  have : (bs.map Value.bool).toArray.size = bs.length := by simp
  rw [this, all_getD]
  rfl
theorem vals_intItems : ∀ {ns : List Int} {us : List Value}, Vals (ns.map V.int) us → ∃ xs : List (Int × Tok), us = xs.map (fun p => Value.int p.1 p.2) ∧ xs.map (·.1) = ns
  | [], _, h => by cases h; exact ⟨[], rfl, rfl⟩
  | n :: r, _, h => by
    cases h with
    | cons q t =>
      obtain ⟨tk, rfl⟩ := q
      obtain ⟨xs, rfl, e⟩ := vals_intItems t
      exact ⟨(n, tk) :: xs, rfl, by simp [e]⟩
def rSum : List V → Hp → VK → Prop := fun xs H Q => ∃ (p : Addr) (ns : List Int), xs = [.ref p] ∧ H p = some (.lst (ns.map V.int)) ∧ Q (.int ns.sum) H
theorem call_sum (hc : X.calm = true) : CallR X (.builtin "sum") rSum := by
  intro pins s σ H xs us Q I r h
  obtain ⟨p, ns, rfl, hp, q⟩ := h
  obtain ⟨u, rfl, ru⟩ := Vals.one r
  cases ru
  obtain ⟨its, rv, pl, _⟩ := I.list (SqL.of hp)
  obtain ⟨xs, rfl, e⟩ := vals_intItems rv
  have hl : s.heap.IsList p (intItems xs.toArray) := by
    have := pl.isList
    rw [show (List.map (fun p => Value.int p.1 p.2) xs).toArray = intItems xs.toArray by unfold intItems; simp] at this
    exact this
  refine sum_intListG (I.ok.hd hc) hl fun h' tk t' hk => ⟨.int ns.sum, H, I.kept hk, ⟨t', ?_⟩, q⟩
  rw [preSum_eq, List.take_of_length_le (by simp), ← e]
def rBits : V → List V → Hp → VK → Prop := fun x vs H Q => ∃ i, x = .int i ∧ vs = [] ∧ Q (.int (Builtin.Int.intBits i : Nat)) H
theorem mt_bits : MtR X "int.bit_length" rBits := by
  intro pins s σ H x xs v us Q I rx rs h
  obtain ⟨i, rfl, rfl, q⟩ := h
  obtain ⟨t, rfl⟩ := rx
  cases rs
  exact call_gives slot_int_bit_length (typeIs_int s i t) entry_int_bit_length (args_int_bit_length _) (AutoIntG2.int_bit_length_int_0 i t) ⟨.int _, H, I.tok _, ⟨_, rfl⟩, q⟩
theorem w_rBits {i : Int} {H : Hp} {Q : VK} : rBits (.int i) [] H Q = Q (.int (Builtin.Int.intBits i : Nat)) H := propext ⟨fun ⟨j, e, _, q⟩ => by cases e; exact q, fun q => ⟨i, rfl, rfl, q⟩⟩
theorem w_tyInt {K : PySem.W.Frag} {i : Int} {H : Hp} : tyV K "int" (.int i) H = True := eq_true (by first | exact rfl | (unfold tyV; rfl) | (unfold tyV; simp))
end
section
variable {K : PySem.W.Frag} {σ : St} {H : Hp} {Q : VK}
theorem w_bm {T : String} {r : V → List V → Hp → VK → Prop} {to : TE} {t : TA} : tBM K T r to t σ H Q = (to σ H fun x H1 => tyV K T x H1 ∧ t σ H1 fun xs H2 => r x xs H2 Q) := rfl
theorem w_bm0 {T : String} {r : V → List V → Hp → VK → Prop} {to : TE} : tBM0 K T r to σ H Q = (to σ H fun x H1 => tyV K T x H1 ∧ r x [] H1 Q) := rfl
theorem w_append {l : Addr} {y : V} : rAppend (.ref l) [y] H Q = ∃ xs, H l = some (.lst xs) ∧ xs.length < sizeLine ∧ Q .non (upd H l (.lst (xs ++ [y]))) :=
  propext ⟨fun ⟨l', xs, y', e1, e2, h, z, q⟩ => by cases e1; cases e2; exact ⟨xs, h, z, q⟩, fun ⟨xs, h, z, q⟩ => ⟨l, xs, y, rfl, rfl, h, z, q⟩⟩
theorem ty_list {l : Addr} {xs : List V} (h : H l = some (.lst xs)) : tyV K "list" (.ref l) H := by
  first | exact .inl ⟨rfl, _, SqL.of h⟩ | (unfold tyV; exact .inl ⟨rfl, _, SqL.of h⟩)
end
end L2
set_option Elab.async false
set_option linter.all false
set_option maxRecDepth 100000
namespace L2
open PySem PySem.Spec PyProof.Rows PySem.W
theorem bits_pow (k : Nat) : Builtin.Int.intBits ((2 : Int) ^ k) = k + 1 := by
  unfold Builtin.Int.intBits
  have p := pow_pos2 k
  rw [if_neg (by simp; omega), Int.natAbs_pow]
  show Nat.log2 (2 ^ k) + 1 = k + 1
  rw [Nat.log2_two_pow]
theorem odd_part : ∀ (n : Nat), 0 < n → ∃ m k, n = (2 * m + 1) * 2 ^ k := by
  intro n
  induction n using Nat.strongRecOn with
  | ind n ih =>
    intro h
    by_cases e : n % 2 = 1
    · exact ⟨n / 2, 0, by simp; omega⟩
    · obtain ⟨m, k, hk⟩ := ih (n / 2) (by omega) (by omega)
      exact ⟨m, k + 1, by rw [Nat.pow_succ, ← Nat.mul_assoc, ← hk]; omega⟩
def absI (n : Int) : Int := if n < 0 then -n else n
def lowK (n : Int) : Int := (Builtin.Int.intBits (Builtin.bitAnd (absI n) (-absI n)) : Int) - 1
def coreL (n : Int) : List Int := if n = 0 then [0, 0, 0] else [absI n / 2 ^ (lowK n).toNat, lowK n, if 0 < n then 1 else -1]
theorem core_fact {n : Int} (h : n ≠ 0) : ∃ (m k : Nat), absI n = (2 * m + 1) * 2 ^ k ∧ coreL n = [2 * (m : Int) + 1, (k : Int), if 0 < n then 1 else -1] := by
  obtain ⟨m, k, e⟩ := odd_part n.natAbs (by omega)
  have ea : absI n = ((n.natAbs : Nat) : Int) := by unfold absI; split <;> omega
  have e1 : absI n = (2 * m + 1) * 2 ^ k := by rw [ea, e, Int.natCast_mul, Int.natCast_pow]; rfl
  refine ⟨m, k, e1, ?_⟩
  have e2 : absI n = 2 ^ k * (2 * (m : Int) + 1) := by rw [e1, Int.mul_comm]
  have e3 : lowK n = k := by
    unfold lowK
    rw [e2, kbt_low, bits_pow]
    omega
  unfold coreL
  rw [if_neg h, e3, Int.toNat_natCast, e1, Int.mul_ediv_cancel _ (Int.ne_of_gt (pow_pos2 k))]
end L2
set_option Elab.async false
set_option linter.all false
set_option maxRecDepth 100000
namespace L2
open PySem PySem.Spec PyProof.Rows
def gTupM (n : Nat) (t : TGs) : TG := fun v σ H Q => ∃ a xs, v = .ref a ∧ H a = some (.tup xs) ∧ xs.length = n ∧ t xs σ H Q
theorem pg_tupM {X : Cx} {es : List Expr} {k : Nat} {t : TGs} {pos : Pos} (n : Nat) (hc : X.calm = true) (h : PGs X es t) (hn : (assignEach es X.env).length = n := by rfl) (hst : (assignEach es X.env).findIdx? (·.1) = none := by rfl) : PG X (.Tuple es k pos) (gTupM n t) := by
  intro pins s σ H v u Q I r hw
  obtain ⟨a, xs, e1, hq, hl, hw⟩ := hw
  exact pg_tup (X := X) (n := n) hc h hn hst pins s σ H v u Q I r ⟨a, xs, e1, SqT.of hq, hl, hw⟩
section
variable {K : PySem.W.Frag} {σ : St} {H : Hp} {Q : VK} {R : St → Hp → Prop}
theorem w_gTupM {n : Nat} {t : TGs} {a : Addr} : gTupM n t (.ref a) σ H R = ∃ xs, H a = some (.tup xs) ∧ xs.length = n ∧ t xs σ H R :=
  propext ⟨fun ⟨a', xs, e, h, l, q⟩ => by cases e; exact ⟨xs, h, l, q⟩, fun ⟨xs, h, l, q⟩ => ⟨a, xs, rfl, h, l, q⟩⟩
theorem w_gCons {t : TG} {u : TGs} {v : V} {r : List V} : gCons t u (v :: r) σ H R = t v σ H fun σ' H' => u r σ' H' R :=
  propext ⟨fun ⟨v', r', e, q⟩ => by cases e; exact q, fun q => ⟨v, r, rfl, q⟩⟩
theorem w_gNil : gNil [] σ H R = R σ H := propext ⟨fun ⟨_, q⟩ => q, fun q => ⟨rfl, q⟩⟩
theorem isI_tt {t : Addr} {xs : List V} (h : H t = some (.tup xs)) : rIsI K [.ref t, .ty "tuple"] H Q = Q (.bl true) H := isI_mk (.tup h) (fun _ z => by cases z <;> first | rfl | (rename_i e; rw [h] at e; cases e) | (rename_i e _ _ _ _ _; rw [h] at e; cases e)) (kit_same _)
theorem isI_ll {t : Addr} {xs : List V} (h : H t = some (.lst xs)) : rIsI K [.ref t, .ty "list"] H Q = Q (.bl true) H := isI_mk (.lst h) (fun _ z => by cases z <;> first | rfl | (rename_i e; rw [h] at e; cases e) | (rename_i e _ _ _ _ _; rw [h] at e; cases e)) (kit_same _)
theorem in_tup {x : V} {t : Addr} {xs : List V} {neg : Bool} (h : H t = some (.tup xs)) (fx : flatV x = true) (fs : xs.all flatV = true) (q : Q (.bl (if neg then !inV x xs else inV x xs)) H) : rIn K neg x (.ref t) H Q := ⟨t, xs, rfl, .inr (SqT.of h), fx, fs, q⟩
end
end L2
set_option Elab.async false
set_option linter.all false
set_option maxRecDepth 100000
namespace L2
open PySem PySem.Spec PyProof.Rows
def rDG : R2 := fun x y H Q => ∃ a k, x = .ref a ∧ y = kV k ∧ ∃ kvs, H a = some (.dK kvs) ∧ ∃ v, valV kvs k = some v ∧ Q v H
def rDP : V → V → V → Hp → (Hp → Prop) → Prop := fun x y v H R => ∃ a k, x = .ref a ∧ y = kV k ∧ ∃ kvs, H a = some (.dK kvs) ∧ kvs.length < sizeLine ∧ R (upd H a (.dK (putK kvs k v)))
def sDP (td ty tv : TE) : TS := fun D σ H => tv σ H fun v H1 => td σ H1 fun x H2 => ty σ H2 fun y H3 => rDP x y v H3 fun H4 => D.nx σ H4
def rDI (neg : Bool) : R2 := fun y x H Q => ∃ a k, x = .ref a ∧ y = kV k ∧ ∃ kvs, H a = some (.dK kvs) ∧ Q (.bl (if neg then !(valV kvs k).isSome else (valV kvs k).isSome)) H
section
variable {X : Cx} {o i e value : Expr} {pos pos' tpos : Pos} {td ty tv : TE}
theorem pe_dgM (hu : X.A.units + 1 < cLine) (ho : PE X o td) (hi : PE X i ty) (hs : NoSl i) : PE X (.Subscript o i pos) (tOp rDG td ty) := by
  intro pins s σ H Q I h
  refine subD_of PySem.F.slot_dict_getitem.lookup hs (thn (ho pins s σ H _ I h) fun u s1 ⟨x, H1, I1, rx, q1⟩ => thn (hi pins s1 σ H1 _ I1 q1) fun iv s2 ⟨y, H2, I2, ry, q2⟩ => ?_)
  obtain ⟨a, k, rfl, rfl, kvs, hk, v, hv, q⟩ := q2
  obtain rfl : u = Value.ref a := rx
  have g : DGet H2 a (kV k) (some v) := by rw [← hv]; exact DGet.k hk
  exact ⟨dict_typeIs I2 g, d_getItem hu I2 g ry fun w' s3 I3 rw' => ⟨v, H2, I3, rw', q⟩⟩
theorem ps_dpM (hu : X.A.units + 1 < cLine) (ho : PE X o td) (hi : PE X i ty) (hv : PE X value tv) (hs : swapsWith value (some (.Subscript o i pos')) pos.line X.env = pure false) : PS X (.Assign [.Subscript o i pos'] value pos) (sDP td ty tv) := by
  intro pins s σ H D I h
  refine wpAny_Assign_Subscript (thn (hv pins s σ H _ I h) fun r s1 ⟨v, H1, I1, rv, q1⟩ => thn (ho pins s1 σ H1 _ I1 q1) fun u s2 ⟨x, H2, I2, rx, q2⟩ => thn (hi pins s2 σ H2 _ I2 q2) fun iv s3 ⟨y, H3, I3, ry, q3⟩ => ?_) hs
  obtain ⟨a, k, rfl, rfl, kvs, hk, hz, q⟩ := q3
  obtain rfl : u = Value.ref a := rx
  exact d_setItem hu I3 (DPut.k (v := v) hk hz) ry rv fun s4 I4 => ⟨σ, _, I4, q⟩
end
section
variable {σ : St} {H : Hp} {Q : VK} {D : Ends} {a : Addr} {v : V} {R : Hp → Prop}
theorem kV_s {k : Key} {x : Str} : (V.str x = kV k) = (k = .inr x) := propext ⟨fun e => by cases k <;> cases e; rfl, fun e => by subst e; rfl⟩
theorem kV_i {k : Key} {x : Int} : (V.int x = kV k) = (k = .inl x) := propext ⟨fun e => by cases k <;> cases e; rfl, fun e => by subst e; rfl⟩
theorem w_dgS {x : Str} : rDG (.ref a) (.str x) H Q = ∃ kvs, H a = some (.dK kvs) ∧ ∃ v, valV kvs (.inr x) = some v ∧ Q v H :=
  propext ⟨fun ⟨a', k, e1, e2, q⟩ => by cases e1; rw [kV_s] at e2; subst e2; exact q, fun q => ⟨a, .inr x, rfl, rfl, q⟩⟩
theorem w_dgI {x : Int} : rDG (.ref a) (.int x) H Q = ∃ kvs, H a = some (.dK kvs) ∧ ∃ v, valV kvs (.inl x) = some v ∧ Q v H :=
  propext ⟨fun ⟨a', k, e1, e2, q⟩ => by cases e1; rw [kV_i] at e2; subst e2; exact q, fun q => ⟨a, .inl x, rfl, rfl, q⟩⟩
theorem w_sDP {td ty tv : TE} : sDP td ty tv D σ H = (tv σ H fun v H1 => td σ H1 fun x H2 => ty σ H2 fun y H3 => rDP x y v H3 fun H4 => D.nx σ H4) := rfl
theorem w_dpS {x : Str} : rDP (.ref a) (.str x) v H R = ∃ kvs, H a = some (.dK kvs) ∧ kvs.length < sizeLine ∧ R (upd H a (.dK (putK kvs (.inr x) v))) :=
  propext ⟨fun ⟨a', k, e1, e2, q⟩ => by cases e1; rw [kV_s] at e2; subst e2; exact q, fun q => ⟨a, .inr x, rfl, rfl, q⟩⟩
theorem w_dpI {x : Int} : rDP (.ref a) (.int x) v H R = ∃ kvs, H a = some (.dK kvs) ∧ kvs.length < sizeLine ∧ R (upd H a (.dK (putK kvs (.inl x) v))) :=
  propext ⟨fun ⟨a', k, e1, e2, q⟩ => by cases e1; rw [kV_i] at e2; subst e2; exact q, fun q => ⟨a, .inl x, rfl, rfl, q⟩⟩
theorem w_dII {neg : Bool} {x : Int} : rDI neg (.int x) (.ref a) H Q = ∃ kvs, H a = some (.dK kvs) ∧ Q (.bl (if neg then !(valV kvs (.inl x)).isSome else (valV kvs (.inl x)).isSome)) H :=
  propext ⟨fun ⟨a', k, e1, e2, q⟩ => by cases e1; rw [kV_i] at e2; subst e2; exact q, fun q => ⟨a, .inl x, rfl, rfl, q⟩⟩
theorem w_disp {trs : List (TE × TE)} : tDisp trs σ H Q = ∀ p, H p = none → tPairs trs σ (upd H p (.dK [])) fun ps H2 => H2 p = some (.dK []) ∧ ∃ kvs : List (Key × V), ps = kvs.map (fun kv => (kV kv.1, kv.2)) ∧ kvs.length ≤ 15 ∧ Q (.ref p) (upd H2 p (.dK (mergeK [] kvs))) := rfl
end
def penKV (a : Addr) (at_ l : Int) : List (Key × V) := [(.inr "script", .ref a), (.inr "at", .int at_), (.inr "left", .int l)]
theorem pen_s {a : Addr} {t l : Int} : valV (penKV a t l) (.inr "script") = some (.ref a) := by unfold penKV; rw [valV_pos rfl]
theorem key_sa : ¬ (Sum.inr "script" : Key) = (Sum.inr "at" : Key) := by decide
theorem key_sl : ¬ (Sum.inr "script" : Key) = (Sum.inr "left" : Key) := by decide
theorem key_al : ¬ (Sum.inr "at" : Key) = (Sum.inr "left" : Key) := by decide
theorem pen_a {a : Addr} {t l : Int} : valV (penKV a t l) (.inr "at") = some (.int t) := by unfold penKV; rw [valV_neg key_sa, valV_pos rfl]
theorem pen_l {a : Addr} {t l : Int} : valV (penKV a t l) (.inr "left") = some (.int l) := by unfold penKV; rw [valV_neg key_sl, valV_neg key_al, valV_pos rfl]
theorem pen_len {a : Addr} {t l : Int} : ((penKV a t l).length < sizeLine) = True := eq_true (Nat.lt_of_lt_of_le (by decide : 3 < 1000) (le_size (by decide)))
theorem pen_pa {a : Addr} {t l x : Int} : putK (penKV a t l) (.inr "at") (.int x) = penKV a x l := by
  unfold putK
  rw [valV_any, pen_a]
  rfl
theorem pen_pl {a : Addr} {t l x : Int} : putK (penKV a t l) (.inr "left") (.int x) = penKV a t x := by
  unfold putK
  rw [valV_any, pen_l]
  rfl
theorem pen_mk {a : Addr} {t l : Int} : mergeK [] (penKV a t l) = penKV a t l := by
  unfold mergeK penKV
  rfl
def Pen (H : Hp) (p a : Addr) (c : Int) : Prop := ∃ t l : Int, H p = some (.dK (penKV a t l)) ∧ 0 ≤ t ∧ t ≤ c ∧ 0 ≤ l
theorem Pen.mono {H : Hp} {p a : Addr} {c d : Int} (h : Pen H p a c) (l : c ≤ d) : Pen H p a d := by
  obtain ⟨t, x, e, h0, h1, h2⟩ := h
  exact ⟨t, x, e, h0, by omega, h2⟩
theorem Pen.same {H H' : Hp} {p a : Addr} {c : Int} (h : Pen H p a c) (s : Same H H') : Pen H' p a c := by
  obtain ⟨t, x, e, r⟩ := h
  exact ⟨t, x, s _ _ e, r⟩
theorem Pen.dK {H : Hp} {p a : Addr} {c : Int} (h : Pen H p a c) : ∃ kvs, H p = some (.dK kvs) := by
  obtain ⟨t, x, e, r⟩ := h
  exact ⟨_, e⟩
theorem Pen.ne {H : Hp} {p a q : Addr} {c : Int} (h : Pen H p a c) (hq : H q = none) : q ≠ p := by
  obtain ⟨xs, h⟩ := h.dK
  exact (ne_of_none h hq).symm
theorem Pen.new {H : Hp} {p a q : Addr} {c : Int} {o : HO} (h : Pen H p a c) (hq : H q = none) : Pen (upd H q o) p a c := h.same (same_new hq _)
theorem pen_of {H : Hp} {p a : Addr} {t l c : Int} (h0 : 0 ≤ t) (h1 : t ≤ c) (h2 : 0 ≤ l) : Pen (upd H p (.dK (penKV a t l))) p a c := ⟨t, l, upd_same, h0, h1, h2⟩
theorem Scr.pen {K : PySem.W.Frag} {H H' : Hp} {p a : Addr} {c : Int} {ns : List Int} (h : Scr K H a ns) (hp : Pen H p a c) (s : Chg p H H') : Scr K H' a ns := by
  obtain ⟨kvs, e⟩ := hp.dK
  exact h.chgD e s
def spPen (K : PySem.W.Frag) : Sp := fun vs H Q _ => ∃ (a : Addr), vs = [.ref a] ∧ ∀ p H', H p = none → Same H H' → Pen H' p a 0 → Q (.ref p) H'
def spDraw (K : PySem.W.Frag) : Sp := fun vs H Q _ => ∃ (p a : Addr) (ns : List Int) (m c : Int), vs = [.ref p, .int m] ∧ Pen H p a c ∧ Scr K H a ns ∧ ns.length ≤ 63 ∧ c ≤ 1000000000 ∧ 1 ≤ m ∧ m < 2 ^ 64 ∧
  ∀ (r : Int) H', 0 ≤ r → r < m → Pen H' p a (c + 1) → Scr K H' a ns → Chg p H H' → Q (.int r) H'
theorem draw_ {K : PySem.W.Frag} {H : Hp} {p a : Addr} {ns : List Int} {m c : Int} {Q : VK} {E : XK} (hP : Pen H p a c) (hS : Scr K H a ns) (h63 : ns.length ≤ 63) (hc : c ≤ 1000000000) (h1 : 1 ≤ m) (h2 : m < 2 ^ 64)
    (q : ∀ (r : Int) H', 0 ≤ r → r < m → Pen H' p a (c + 1) → Scr K H' a ns → Chg p H H' → Q (.int r) H') : spDraw K [.ref p, .int m] H Q E := ⟨p, a, ns, m, c, rfl, hP, hS, h63, hc, h1, h2, q⟩
end L2
set_option Elab.async false
set_option linter.all false
set_option maxRecDepth 100000
namespace L2
open PySem PySem.Spec PyProof.Rows
def Itv (K : PySem.W.Frag) (a : Addr) (n : Nat) : It :=
  ⟨fun i H => i < n ∧ ∃ xs, SqL K H a xs ∧ xs.length = n, fun i H x H' => H' = H ∧ ∀ xs, SqL K H a xs → xs.length = n → xs[n - 1 - i]? = some x, fun i H => i = n⟩
def iRev (K : PySem.W.Frag) (ta : TA) : TI := fun σ H R => ta σ H fun vs H1 => ∃ a xs, vs = [.ref a] ∧ SqL K H1 a xs ∧ R (Itv K a xs.length) H1
def ForV (K : PySem.W.Frag) (a : Addr) (n : Nat) (g : TG) (tb : TS) (D : Ends) (σ : St) (H : Hp) : Prop := ∃ W : Nat → Nat → St → Hp → Prop, (∃ m, W 0 m σ H) ∧ ∀ i m σ H, W i m σ H →
  ((Itv K a n).stop i H ∧ D.nx σ H) ∨ ((Itv K a n).go i H ∧ ∃ N : St → Hp → Prop, (∀ σ' H', N σ' H' → ∃ m', m' < m ∧ W (i + 1) m' σ' H') ∧ ∀ x H', (Itv K a n).yld i H x H' → g x σ H' fun σ2 H2 => tb { D with nx := N, ct := N, bk := D.nx } σ2 H2)
section
variable {σ : St} {H : Hp} {D : Ends} {g : TG} {tb : TS} {K : PySem.W.Frag} {a : Addr}
theorem w_forV {ta : TA} : tFor (iRev K ta) g tb D σ H = (ta σ H fun vs H1 => ∃ a xs, vs = [.ref a] ∧ SqL K H1 a xs ∧ ForV K a xs.length g tb D σ H1) := rfl
end
end L2
set_option Elab.async false
set_option linter.all false
set_option maxRecDepth 100000
namespace L2
open PySem
def fs (n : Int) : Int := if n % 2 = 0 then 0 else 2 - n % 4
def nafF : Nat → Int → List Int
  | 0, _ => []
  | k + 1, n => if n = 0 then [] else fs n :: nafF k ((n - fs n) / 2)
def naf (n : Int) : List Int := nafF n.natAbs n
theorem fs_cases (n : Int) : (fs n = 0 ∧ n % 2 = 0) ∨ (fs n = 1 ∧ n % 4 = 1) ∨ (fs n = -1 ∧ n % 4 = 3) := by
  unfold fs
  split <;> omega
theorem fs_lt {n : Int} (h : n ≠ 0) : ((n - fs n) / 2).natAbs < n.natAbs := by
  rcases fs_cases n with ⟨e, _⟩ | ⟨e, _⟩ | ⟨e, _⟩ <;> rw [e] <;> omega
theorem nafF_fuel : ∀ (k : Nat) (n : Int), n.natAbs ≤ k → nafF k n = nafF n.natAbs n := by
  intro k
  induction k using Nat.strongRecOn with
  | ind k ih =>
    intro n h
    by_cases z : n = 0
    · subst z
      cases k <;> simp [nafF]
    · obtain ⟨k', rfl⟩ : ∃ k', k = k' + 1 := ⟨k - 1, by omega⟩
      obtain ⟨j, hj⟩ : ∃ j, n.natAbs = j + 1 := ⟨n.natAbs - 1, by omega⟩
      have lt := fs_lt z
      rw [hj, nafF, nafF, if_neg z, if_neg z, ih k' (by omega) _ (by omega)]
      by_cases e : k' = j
      · subst e
        rw [ih k' (by omega) _ (by omega)]
      · rw [ih j (by omega) _ (by omega)]
theorem naf_zero : naf 0 = [] := rfl
theorem naf_step {n : Int} (h : n ≠ 0) : naf n = fs n :: naf ((n - fs n) / 2) := by
  have lt := fs_lt h
  obtain ⟨j, hj⟩ : ∃ j, n.natAbs = j + 1 := ⟨n.natAbs - 1, by omega⟩
  unfold naf
  rw [hj, nafF, if_neg h, nafF_fuel j _ (by omega)]
theorem naf_ind {p : Int → Prop} (h0 : p 0) (hs : ∀ n, n ≠ 0 → p ((n - fs n) / 2) → p n) : ∀ n, p n := by
  have all : ∀ k (n : Int), n.natAbs ≤ k → p n := by
    intro k
    induction k with
    | zero => intro n h; have : n = 0 := by omega
              subst this; exact h0
    | succ k ih =>
      intro n h
      by_cases z : n = 0
      · subst z; exact h0
      · exact hs n z (ih _ (by have := fs_lt z; omega))
  exact fun n => all n.natAbs n (Nat.le_refl _)
def val : List Int → Int
  | [] => 0
  | d :: r => d + 2 * val r
theorem val_naf : ∀ n, val (naf n) = n := naf_ind rfl fun n h ih => by
  rw [naf_step h, val, ih]
  rcases fs_cases n with ⟨e, _⟩ | ⟨e, _⟩ | ⟨e, _⟩ <;> rw [e] <;> omega
theorem naf_dig : ∀ n, ∀ d ∈ naf n, d = -1 ∨ d = 0 ∨ d = 1 := naf_ind (by simp [naf_zero]) fun n h ih => by
  rw [naf_step h]
  intro d hd
  rcases List.mem_cons.mp hd with e | e
  · rw [e]
    rcases fs_cases n with ⟨e, _⟩ | ⟨e, _⟩ | ⟨e, _⟩ <;> rw [e] <;> simp
  · exact ih d e
theorem naf_ne {n : Int} (h : n ≠ 0) : naf n ≠ [] := by rw [naf_step h]; simp
theorem fs_neg (n : Int) : fs (-n) = -fs n := by
  rcases fs_cases n with ⟨e, _⟩ | ⟨e, _⟩ | ⟨e, _⟩ <;> rcases fs_cases (-n) with ⟨e', _⟩ | ⟨e', _⟩ | ⟨e', _⟩ <;> rw [e, e'] <;> omega
theorem naf_neg : ∀ n, naf (-n) = (naf n).map fun d => 0 - d := naf_ind rfl fun n h ih => by
  rw [naf_step h, naf_step (n := -n) (by omega), List.map_cons, ← ih, fs_neg]
  have e : (-n - -fs n) / 2 = -((n - fs n) / 2) := by
    rcases fs_cases n with ⟨e, _⟩ | ⟨e, _⟩ | ⟨e, _⟩ <;> rw [e] <;> omega
  rw [e, Int.zero_sub]
theorem naf_dbl {n : Int} (h : n ≠ 0) : naf (2 * n) = 0 :: naf n := by
  have e : fs (2 * n) = 0 := by unfold fs; rw [if_pos (by omega)]
  rw [naf_step (n := 2 * n) (by omega), e]
  congr 2
  omega
theorem naf_shl {n : Int} (h : n ≠ 0) : ∀ k : Nat, naf (n * 2 ^ k) = List.replicate k 0 ++ naf n
  | 0 => by simp
  | k + 1 => by
    have p := pow_pos2 k
    have e : n * 2 ^ (k + 1) = 2 * (n * 2 ^ k) := by rw [Int.pow_succ, ← Int.mul_assoc, Int.mul_comm]
    rw [e, naf_dbl (Int.mul_ne_zero h (by omega)), naf_shl h k, List.replicate_succ]
    rfl
theorem naf_len : ∀ (k : Nat) (n : Int), n.natAbs < 2 ^ k → (naf n).length ≤ k + 1
  | 0, n, h => by
    have : n = 0 := by omega
    subst this
    simp [naf_zero]
  | k + 1, n, h => by
    by_cases z : n = 0
    · subst z
      simp [naf_zero]
    · rw [naf_step z, List.length_cons]
      by_cases z2 : (n - fs n) / 2 = 0
      · rw [z2, naf_zero]
        simp
      · have hp : 2 ^ (k + 1) = 2 * 2 ^ k := by rw [Nat.pow_succ, Nat.mul_comm]
        rcases Nat.lt_or_ge ((n - fs n) / 2).natAbs (2 ^ k) with l | l
        · have := naf_len k _ l
          omega
        · -- the only number left is the power itself
          have e : (n - fs n) / 2 = 2 ^ k ∨ (n - fs n) / 2 = -(2 ^ k) := by
            have hc : ((2 ^ k : Nat) : Int) = (2 : Int) ^ k := by rw [Int.natCast_pow]; rfl
            rcases fs_cases n with ⟨e, _⟩ | ⟨e, _⟩ | ⟨e, _⟩ <;> rw [e] at l ⊢ <;> omega
          have len : (naf ((2 : Int) ^ k)).length = k + 1 := by
            have := naf_shl (n := 1) (by decide) k
            rw [Int.one_mul] at this
            rw [this]
            simp [show naf 1 = [1] from rfl]
          rcases e with e | e
          · rw [e, len]
            omega
          · rw [e, naf_neg, List.length_map, len]
            omega
def dig3 (n : Int) (p : Nat) : Int := (3 * n) / 2 ^ p % 2 - n / 2 ^ p % 2
theorem half_pow (n : Int) {i : Nat} : n / 2 / 2 ^ i = n / 2 ^ (i + 1) := by
  rw [Int.pow_succ, Int.mul_comm, Int.ediv_ediv_of_nonneg (by decide)]
theorem c_lem : ∀ (t : Nat) (j : Int), (3 * j - 1) / 2 ^ t % 2 - (j - 1) / 2 ^ t % 2 = (3 * j) / 2 ^ t % 2 - j / 2 ^ t % 2
  | 0, j => by simp; omega
  | t + 1, j => by
    rw [← half_pow (3 * j - 1), ← half_pow (j - 1), ← half_pow (3 * j), ← half_pow j]
    by_cases e : j % 2 = 0
    · have h := c_lem t (j / 2)
      have e1 : (3 * j - 1) / 2 = 3 * (j / 2) - 1 := by omega
      have e2 : (j - 1) / 2 = j / 2 - 1 := by omega
      have e3 : 3 * j / 2 = 3 * (j / 2) := by omega
      rw [e1, e2, e3]
      exact h
    · have e1 : (3 * j - 1) / 2 = 3 * j / 2 := by omega
      have e2 : (j - 1) / 2 = j / 2 := by omega
      rw [e1, e2]
theorem dig3_step {n : Int} (hn : n ≠ 0) (p : Nat) : dig3 n (p + 2) = dig3 ((n - fs n) / 2) (p + 1) := by
  unfold dig3
  have d2 : ∀ (x : Int) (i : Nat), x / 2 ^ (i + 1) = x / 2 / 2 ^ i := fun x i => (half_pow x).symm
  rw [d2 (3 * n), d2 n, d2 (3 * n / 2), d2 (n / 2), d2 (3 * ((n - fs n) / 2)), d2 ((n - fs n) / 2)]
  rcases fs_cases n with ⟨e, h⟩ | ⟨e, h⟩ | ⟨e, h⟩
  · rw [e]
    have a1 : 3 * n / 2 / 2 = 3 * ((n - 0) / 2) / 2 := by omega
    have a2 : n / 2 / 2 = (n - 0) / 2 / 2 := by omega
    rw [a1, a2]
  · rw [e]
    have a1 : 3 * n / 2 / 2 = 3 * ((n - 1) / 2) / 2 := by omega
    have a2 : n / 2 / 2 = (n - 1) / 2 / 2 := by omega
    rw [a1, a2]
  · rw [e]
    have a1 : 3 * n / 2 / 2 = 3 * ((n - -1) / 2 / 2) - 1 := by omega
    have a2 : n / 2 / 2 = (n - -1) / 2 / 2 - 1 := by omega
    have a3 : 3 * ((n - -1) / 2) / 2 = 3 * ((n - -1) / 2 / 2) := by omega
    rw [a1, a2, a3]
    exact c_lem p _
theorem dig3_one {n : Int} (hn : n ≠ 0) : dig3 n 1 = fs n := by
  unfold dig3
  rw [Int.pow_one]
  rcases fs_cases n with ⟨e, h⟩ | ⟨e, h⟩ | ⟨e, h⟩ <;> rw [e] <;> omega
theorem no12 {j : Int} (hj : 0 < j) (k : Nat) : 12 * j ≠ 2 ^ k := by
  intro h
  have all : ∀ k : Nat, (2 : Int) ^ k % 3 ≠ 0 := by
    intro k
    induction k with
    | zero => decide
    | succ k ih => rw [Int.pow_succ]; omega
  have := all k
  rw [← h] at this
  omega
theorem more_step {n : Int} (hn : 0 < n) (p : Nat) : (0 < (3 * n) / 2 ^ (p + 2)) ↔ (0 < (3 * ((n - fs n) / 2)) / 2 ^ (p + 1)) := by
  have P := pow_pos2 p
  have q1 : ∀ (x : Int) (k : Nat), 0 < x / 2 ^ k ↔ 2 ^ k ≤ x := fun x k => by
    have := pow_pos2 k
    rw [show (0 < x / 2 ^ k) ↔ (1 ≤ x / 2 ^ k) from Iff.rfl, Int.le_ediv_iff_mul_le this, Int.one_mul]
  rw [q1, q1]
  have e2 : (2 : Int) ^ (p + 2) = 4 * 2 ^ p := by rw [Int.pow_succ, Int.pow_succ]; omega
  have e1 : (2 : Int) ^ (p + 1) = 2 * 2 ^ p := by rw [Int.pow_succ]; omega
  rcases fs_cases n with ⟨e, h⟩ | ⟨e, h⟩ | ⟨e, h⟩
  · rw [e, e2, e1]; omega
  · rw [e, e2, e1]; omega
  · have no := no12 (j := (n + 1) / 4) (by omega) (p + 2)
    rw [e2] at no
    rw [e, e2, e1]
    omega
theorem m_nonneg {n : Int} (h : 0 < n) : 0 ≤ (n - fs n) / 2 := by
  rcases fs_cases n with ⟨e, _⟩ | ⟨e, _⟩ | ⟨e, _⟩ <;> rw [e] <;> omega
theorem naf_bits : ∀ (k : Nat) (n : Int), 0 ≤ n → ((k < (naf n).length ↔ 0 < (3 * n) / 2 ^ (k + 1)) ∧ (∀ d, (naf n)[k]? = some d → d = dig3 n (k + 1))) := by
  intro k
  induction k with
  | zero =>
    intro n h
    by_cases z : n = 0
    · subst z
      simp [naf_zero]
    · rw [naf_step z]
      refine ⟨?_, fun d hd => ?_⟩
      · simp only [List.length_cons, Nat.zero_add, Int.pow_one]
        omega
      · simp only [List.getElem?_cons_zero, Option.some.injEq] at hd
        rw [← hd, Nat.zero_add, dig3_one z]
  | succ k ih =>
    intro n h
    by_cases z : n = 0
    · subst z
      simp [naf_zero]
    · obtain ⟨a, b⟩ := ih _ (m_nonneg (n := n) (by omega))
      rw [naf_step z]
      refine ⟨?_, fun d hd => ?_⟩
      · rw [List.length_cons, Nat.add_lt_add_iff_right, a]
        exact (more_step (by omega) k).symm
      · simp only [List.getElem?_cons_succ] at hd
        rw [b d hd, dig3_step z]
end L2
set_option Elab.async false
set_option linter.all false
set_option maxRecDepth 100000
namespace L2
open PySem PySem.Spec PyProof.Rows
theorem and1 (x : Int) : Builtin.bitAnd x 1 = x % 2 := by
  have := PySem.W.kbt_mask x 1
  simpa using this
theorem and3 (x : Int) : Builtin.bitAnd x 3 = x % 4 := by
  have := PySem.W.kbt_mask x 2
  simpa using this
def spFirst : Sp := fun vs H Q _ => ∃ n : Int, vs = [.int n] ∧ Q (.int (fs n)) H
def spSigns : Sp := fun vs H Q _ => ∃ n : Int, vs = [.int n] ∧ n.natAbs < 2 ^ 5000 ∧ ∀ r, H r = none → Q (.ref r) (upd H r (.lst ((naf n).map V.int)))
def wt (ds : List Int) : Nat := (ds.filter fun d => decide (d ≠ 0)).length
def spLeast : Sp := fun vs H Q _ => ∃ n : Int, vs = [.int n] ∧ n.natAbs < 2 ^ 5000 ∧ ∀ H', Same H H' → Q (.int (wt (naf n) : Int)) H'
def spWhole : Sp := fun vs H Q _ => ∃ i : Int, vs = [.int i] ∧ Q (.bl true) H
def tWhl (c : TT) (tb : TS) : TS := fun D σ H => ∃ W : Nat → St → Hp → Prop, (∃ m, W m σ H) ∧ ∀ m σ H, W m σ H → ∀ N : St → Hp → Prop, (∀ m' σ' H', m' < m → W m' σ' H' → N σ' H') →
  c σ H fun b H1 => if b = true then tb { D with nx := N, ct := N, bk := D.nx } σ H1 else D.nx σ H1
theorem ps_whl {X : Cx} {pos : Pos} {c : Expr} {body : List Stmt} {tc : TT} {tb : TS} (hp : PassesOwn (model X.prog X.w) X.A X.env X.xe) (hc : PT X c tc) (hb : PSs X body tb) : PS X (.While c body [] pos) (tWhl tc tb) := by
  intro pins s σ H D I h
  obtain ⟨W, ⟨m0, w0⟩, turn⟩ := h
  refine wpAny_While (codeAny_whileLoop (fun n s' => ∃ σ' H', Inv X pins σ' H' s' ∧ W n σ' H') ?_ m0 ⟨σ, H, I, w0⟩)
  rintro n s1 ⟨σ1, H1, I1, w1⟩
  refine wpAny_passesOwn hp (thn (hc pins s1 σ1 H1 _ I1 (turn n σ1 H1 w1 (fun σ' H' => ∃ m', m' < n ∧ W m' σ' H') fun m' _ _ l z => ⟨m', l, z⟩)) fun b s2 ⟨H2, I2, q2⟩ => ?_)
  cases b with
  | true =>
    rw [if_pos rfl] at q2 ⊢
    refine wpAny_passesOwn hp (thn (hb pins s2 σ1 H2 _ I2 q2) fun f s3 q3 => ?_)
    cases f with
    | next =>
      obtain ⟨σ3, H3, I3, m', hm, w3⟩ := q3
      exact ⟨m', hm, σ3, H3, I3, w3⟩
    | cont =>
      obtain ⟨σ3, H3, I3, m', hm, w3⟩ := q3
      exact ⟨m', hm, σ3, H3, I3, w3⟩
    | brk => exact q3
    | ret v => exact q3
  | false =>
    rw [if_neg Bool.false_ne_true] at q2 ⊢
    exact wpAny_execs_nil ⟨σ1, H2, I2, q2⟩
theorem whl {c : TT} {tb : TS} {D : Ends} {σ : St} {H : Hp} (Pv : Nat → St → Hp → Prop) (m : Nat) (h0 : Pv m σ H)
    (hs : ∀ m σ H (N : St → Hp → Prop), Pv m σ H → (∀ m' σ' H', m' < m → Pv m' σ' H' → N σ' H') → c σ H fun b H1 => if b = true then tb { D with nx := N, ct := N, bk := D.nx } σ H1 else D.nx σ H1) : tWhl c tb D σ H :=
  ⟨Pv, ⟨m, h0⟩, fun m σ H p N hN => hs m σ H N p hN⟩
theorem filterMap_some {α β : Type} (f : α → β) (xs : List α) : xs.filterMap (fun x => some (f x)) = xs.map f := by
  induction xs with
  | nil => rfl
  | cons x r ih => rw [List.filterMap_cons, ih]; rfl
end L2
set_option Elab.async false
set_option linter.all false
set_option maxRecDepth 100000
namespace L2
open PySem
theorem p2le {e k : Nat} (h : e ≤ k) : 0 < (2 : Int) ^ e ∧ (2 : Int) ^ e ≤ 2 ^ k := by
  refine ⟨pow_pos2 e, ?_⟩
  obtain ⟨j, rfl⟩ : ∃ j, k = e + j := ⟨k - e, by omega⟩
  rw [Int.pow_add]
  have h1 := pow_pos2 e
  have h2 := pow_pos2 j
  have : (2 : Int) ^ e * 1 ≤ 2 ^ e * 2 ^ j := Int.mul_le_mul_of_nonneg_left (by omega) (by omega)
  omega
theorem shl1_b {e : Int} {k : Nat} (h1 : e ≤ k) : 0 < 1 * (2 : Int) ^ e.toNat ∧ 1 * (2 : Int) ^ e.toNat ≤ 2 ^ k := by
  have := p2le (e := e.toNat) (k := k) (by omega)
  omega
def spAny (K : PySem.W.Frag) : Sp := fun vs H Q _ => ∃ (p a : Addr) (ns : List Int) (c size : Int), vs = [.ref p, .int size] ∧ Pen H p a c ∧ Scr K H a ns ∧ ns.length ≤ 63 ∧ c ≤ 200000000 ∧ 0 ≤ size ∧ size < 190 ∧
  ∀ (r : Int) H', 0 ≤ r → r < 4 * 10 ^ 59 → Pen H' p a (c + 10) → Scr K H' a ns → Chg p H H' → Q (.int r) H'
def spNumP (K : PySem.W.Frag) : Sp := fun vs H Q _ => ∃ (p a : Addr) (ns : List Int) (c : Int), vs = [.ref p] ∧ Pen H p a c ∧ Scr K H a ns ∧ ns.length ≤ 63 ∧ c ≤ 100000000 ∧
  ∀ (r : Int) H', r.natAbs < 2 ^ 200 → Pen H' p a (c + 40) → Scr K H' a ns → Chg p H H' → Q (.int r) H'
theorem num_ {K : PySem.W.Frag} {H : Hp} {p a : Addr} {ns : List Int} {c : Int} {Q : VK} {E : XK} (hP : Pen H p a c) (hS : Scr K H a ns) (h63 : ns.length ≤ 63) (hc : c ≤ 100000000)
    (q : ∀ (r : Int) H', r.natAbs < 2 ^ 200 → Pen H' p a (c + 40) → Scr K H' a ns → Chg p H H' → Q (.int r) H') : spNumP K [.ref p] H Q E := ⟨p, a, ns, c, rfl, hP, hS, h63, hc, q⟩
theorem mul_abs {x y : Int} {A B : Int} (hx : -A ≤ x ∧ x ≤ A) (hy : -B ≤ y ∧ y ≤ B) (hA : 0 ≤ A) (hB : 0 ≤ B) : -(A * B) ≤ x * y ∧ x * y ≤ A * B := by
  have h : (x * y).natAbs ≤ A.natAbs * B.natAbs := by
    rw [Int.natAbs_mul]
    exact Nat.mul_le_mul (by omega) (by omega)
  have e : ((A.natAbs * B.natAbs : Nat) : Int) = A * B := by rw [Int.natCast_mul]; congr 1 <;> omega
  omega
theorem div_le' {x d : Int} (hx : 0 ≤ x) (hd : 0 < d) : 0 ≤ x / d ∧ x / d ≤ x := ⟨Int.ediv_nonneg hx (Int.le_of_lt hd), Int.ediv_le_self d hx⟩
def spLSigns : Sp := fun vs H Q _ => ∃ n : Int, vs = [.int n] ∧ n.natAbs < 2 ^ 5000 ∧ ∀ r H', H r = none → Same H H' → H' r = some (.lst ((naf n).map V.int)) → Q (.ref r) H'
theorem le_big {n : Nat} (h : n ≤ 100000) : n ≤ sizeLine := Nat.le_trans h (by decide)
theorem lt_big {n : Nat} (h : n < 100000) : n < sizeLine := Nat.lt_of_lt_of_le h (by decide)
theorem same_upd {H H' : Hp} {r : Addr} {o : HO} (h : H r = none) (s : Same H H') : Same H (upd H' r o) := fun b u q => by rw [upd_ne (ne_of_none q h)]; exact s b u q
theorem big_of {n : Int} {j k : Nat} (h : n.natAbs < 2 ^ j) (l : j ≤ k) : n.natAbs < 2 ^ k := Nat.lt_of_lt_of_le h (Nat.pow_le_pow_right (by decide) l)
def On2 (vs : List V) (P : Int → Int → Prop) : Prop := ∃ i j, vs = [.int i, .int j] ∧ P i j
theorem w_On2 {i j : Int} {P : Int → Int → Prop} : On2 [.int i, .int j] P = P i j := propext ⟨fun ⟨i', j', e, q⟩ => by cases e; exact q, fun q => ⟨i, j, rfl, q⟩⟩
section
variable {σ : St} {H : Hp} {D : Ends} {g : TG} {tb : TS} {K : PySem.W.Frag} {Q : VK} {nt : Nat} {cs : List Nat} {tt : TT} {te : TE}
theorem w_for2b {ta : TA} : tFor (iRng2 ta) g tb D σ H = (ta σ H fun vs H1 => On2 vs fun i j => (-(2 ^ 62) ≤ i ∧ i < 2 ^ 62 ∧ -(2 ^ 62) ≤ j ∧ j < 2 ^ 62) ∧ ForR i (j - i).toNat g tb D σ H1) := rfl
theorem w_comp2b {ta : TA} : tComp (iRng2 ta) nt cs g tt te σ H Q = (ta σ H fun vs H1 => On2 vs fun i j => (-(2 ^ 62) ≤ i ∧ i < 2 ^ 62 ∧ -(2 ^ 62) ≤ j ∧ j < 2 ^ 62) ∧ CompIt (Itr i (j - i).toNat) nt cs g tt te σ H1 Q) := rfl
end
end L2
set_option Elab.async false
set_option linter.all false
set_option maxRecDepth 100000
namespace L2
open PySem
def fltV : V → Option V := fun x => match x with
  | .int d => if d ≠ 0 then some (.int d) else none
  | _ => none
theorem fltV_ne {d : Int} (h : ¬d = 0) : fltV (.int d) = some (.int d) := by unfold fltV; exact if_pos h
theorem flt_len_map : ∀ (ds : List Int), (ds.map V.int).filterMap fltV = (ds.filter fun d => decide (d ≠ 0)).map V.int
  | [] => rfl
  | d :: r => by
    rw [List.map_cons, List.filterMap_cons, List.filter_cons]
    by_cases h : d = 0
    · subst h
      show ((r.map V.int).filterMap fltV) = _
      rw [flt_len_map r]
      rfl
    · rw [fltV_ne h, if_pos (by simpa using h), List.map_cons, flt_len_map r]
abbrev wn (n : Int) : Nat := wt (naf n)
theorem wt_cons (d : Int) (r : List Int) : wt (d :: r) = (if d = 0 then 0 else 1) + wt r := by
  unfold wt
  rw [List.filter_cons]
  by_cases h : d = 0
  · simp [h]
  · simp [h]; omega
theorem wn_step (n : Int) : wn n = (if fs n = 0 then 0 else 1) + wn ((n - fs n) / 2) := by
  by_cases h : n = 0
  · subst h; rfl
  · show wt (naf n) = _
    rw [naf_step h, wt_cons]
theorem wt_neg : ∀ ds : List Int, wt (ds.map fun d => 0 - d) = wt ds
  | [] => rfl
  | d :: r => by
    rw [List.map_cons, wt_cons, wt_cons, wt_neg r]
    have : (0 - d = 0) ↔ (d = 0) := by omega
    simp only [this]
theorem wn_neg (n : Int) : wn (-n) = wn n := by show wt (naf (-n)) = _; rw [naf_neg, wt_neg]
theorem wn_dbl (n : Int) : wn (2 * n) = wn n := by
  rw [wn_step (2 * n)]
  have e : fs (2 * n) = 0 := by unfold fs; rw [if_pos (by omega)]
  rw [e, if_pos rfl, Nat.zero_add]
  congr 2
  omega
theorem wn_eq0 {n : Int} : wn n = 0 ↔ n = 0 := by
  constructor
  · refine naf_ind (p := fun n => wn n = 0 → n = 0) (fun _ => rfl) (fun n h ih hw => ?_) n
    rw [wn_step] at hw
    have h1 : fs n = 0 := by
      by_cases z : fs n = 0
      · exact z
      · rw [if_neg z] at hw; omega
    rw [h1] at hw ih
    have := ih (by rw [if_pos rfl] at hw; omega)
    rcases fs_cases n with ⟨e, _⟩ | ⟨e, _⟩ | ⟨e, _⟩
    · omega
    · rw [e] at h1; cases h1
    · rw [e] at h1; cases h1
  · intro e; subst e; rfl
theorem w_neB {a b : Bool} {H : Hp} {Q : VK} : rNe (.bl a) (.bl b) H Q = Q (.bl (!decide (a = b))) H :=
  propext (by
    have e : decide (V.bl a = V.bl b) = decide (a = b) := by by_cases h : a = b <;> simp [h]
    unfold rNe; rw [e]; exact ⟨fun h => h.2, fun h => ⟨rfl, h⟩⟩)
theorem w_eqB {a b : Bool} {H : Hp} {Q : VK} : rEq (.bl a) (.bl b) H Q = Q (.bl (decide (a = b))) H :=
  propext (by
    have e : decide (V.bl a = V.bl b) = decide (a = b) := by by_cases h : a = b <;> simp [h]
    unfold rEq; rw [e]; exact ⟨fun h => h.2, fun h => ⟨rfl, h⟩⟩)
theorem lt_bits (n : Int) : n.natAbs < 2 ^ Builtin.Int.intBits n := by
  unfold Builtin.Int.intBits
  split
  · rename_i h
    have : n = 0 := by simpa using h
    subst this
    decide
  · exact Nat.lt_log2_self
end L2
set_option Elab.async false
set_option linter.all false
set_option maxRecDepth 100000
namespace L2
open PySem
abbrev SS := List (Int × Int) × List Int
def stp (m : Int) (s : SS) (o : Int) : SS := if (s.1.lookup o).isSome = false ∧ (if o < 0 then -o else o) < 200 then (s.1 ++ [(o, m)], s.2 ++ [o]) else s
def kin (m n : Int) (s : SS) (k : Nat) : SS := stp m (stp m s (n + 1 * 2 ^ k)) (n - 1 * 2 ^ k)
structure SInv (m : Int) (s : SS) : Prop where
  val : ∀ n v, s.1.lookup n = some v → ((wn n : Nat) : Int) ≤ v ∧ v ≤ m
  fr : ∀ n ∈ s.2, ((wn n : Nat) : Int) ≤ m
  mem : ∀ n, s.1.lookup n = some m → n ∈ s.2
theorem lk_app {l : List (Int × Int)} {o m n : Int} : (l ++ [(o, m)]).lookup n = (l.lookup n).or (if n = o then some m else none) := by
  rw [List.lookup_append, List.lookup_cons]
  by_cases h : n = o
  · subst h; simp
  · have : (n == o) = false := by simpa using h
    rw [this, if_neg h]
    rfl
end L2
set_option Elab.async false
set_option linter.all false
set_option maxRecDepth 100000
set_option maxHeartbeats 1000000
namespace L2
open PySem PySem.Spec PyProof.Rows
section
variable {prog : Program} {w : World} {A : Around} {R : Result → Shared → Prop} {I S : Addr} {fp wr : List Addr} {n : Nat} {P : Nat → Value → Prop} {St : Nat → Heap → Prop} {bt : Nat → Nat → Bool} {d : Value}
end
section
variable {prog : Program} {w : World} {A : Around} {E : Value → Shared → Prop} {s : Shared} {d x : Value}
end
def mz : List Int → Int
  | [] => 0
  | x :: r => if mz r < x then x else mz r
theorem mz_nonneg : ∀ (ns : List Int), 0 ≤ mz ns
  | [] => Int.le_refl 0
  | x :: r => by
    have := mz_nonneg r
    unfold mz
    split <;> omega
theorem mz_ge {x : Int} : ∀ {ns : List Int}, x ∈ ns → x ≤ mz ns
  | y :: r, h => by
    unfold mz
    rcases List.mem_cons.mp h with e | e
    · subst e
      split <;> omega
    · have := mz_ge e
      split <;> omega
theorem mz_mem : ∀ {ns : List Int}, ns ≠ [] → (∀ n ∈ ns, 0 ≤ n) → mz ns ∈ ns
  | [x], _, h => by
    have := h x List.mem_cons_self
    show (if (0 : Int) < x then x else 0) ∈ [x]
    by_cases hx : 0 < x
    · rw [if_pos hx]; exact List.mem_cons_self
    · rw [if_neg hx, show x = 0 by omega]; exact List.mem_cons_self
  | x :: y :: r, _, h => by
    have ih := mz_mem (ns := y :: r) (by simp) fun n hn => h n (List.mem_cons_of_mem _ hn)
    rw [mz]
    by_cases hx : mz (y :: r) < x
    · rw [if_pos hx]; exact List.mem_cons_self
    · rw [if_neg hx]; exact List.mem_cons_of_mem _ ih
theorem mz_unique {ns : List Int} {v : Int} (hm : v ∈ ns) (hp : ∀ n ∈ ns, 0 ≤ n) (hv : ∀ n ∈ ns, n ≤ v) : v = mz ns := by
  have h1 := mz_ge hm
  have h2 := hv _ (mz_mem (by intro z; rw [z] at hm; cases hm) hp)
  omega
theorem mz_app (a b : List Int) : mz (a ++ b) = if mz b > mz a then mz b else mz a := by
  induction a with
  | nil =>
    have := mz_nonneg b
    show mz b = if mz b > 0 then mz b else 0
    split <;> omega
  | cons x r ih =>
    rw [List.cons_append, mz, mz, ih]
    repeat' split
    all_goals omega
theorem mz_map {f : Int → Int} (f0 : f 0 = 0) (hf : ∀ x y, x ≤ y → f x ≤ f y) : ∀ (ns : List Int), mz (ns.map f) = f (mz ns)
  | [] => f0.symm
  | x :: r => by
    rw [List.map_cons, mz, mz, mz_map f0 hf r]
    by_cases h : mz r < x
    · have := hf _ _ (Int.le_of_lt h)
      rw [if_pos h]
      split <;> omega
    · have := hf x (mz r) (by omega)
      rw [if_neg h]
      split <;> omega
theorem best_val (val : Nat → Int) : ∀ k i, i ≤ k → val i ≤ val (argBest (fun i j => decide (val i > val j)) k)
  | 0, i, h => by
    have : i = 0 := by omega
    subst this
    exact Int.le_refl _
  | k + 1, i, h => by
    rw [argBest]
    by_cases hb : val (k + 1) > val (argBest (fun i j => decide (val i > val j)) k)
    · rw [if_pos (by simpa using hb)]
      by_cases e : i = k + 1
      · subst e; exact Int.le_refl _
      · have := best_val val k i (by omega)
        omega
    · rw [if_neg (by simpa using hb)]
      by_cases e : i = k + 1
      · subst e; omega
      · exact best_val val k i (by omega)
theorem best_le (bt : Nat → Nat → Bool) : ∀ k, argBest bt k ≤ k
  | 0 => Nat.le_refl 0
  | k + 1 => by
    have := best_le bt k
    rw [argBest]
    split <;> omega
section
variable {X : Cx} {e : Expr} {es : List Expr} {kws : List Keyword} {t tk : TA} {p pos : Pos}
theorem best_mz {xs : List (Int × Tok)} {ns : List Int} (e : xs.map (·.1) = ns) (hn : 0 < xs.length) (hp : ∀ n ∈ ns, 0 ≤ n) {v : Value} (hv : (xs.map fun p => Value.int p.1 p.2).toArray[argBest (fun i j => decide (ns.getD i 0 > ns.getD j 0)) (xs.length - 1)]? = some v) : ∃ tk, v = .int (mz ns) tk := by
  have hl : ns.length = xs.length := by rw [← e, List.length_map]
  have hb := best_le (fun i j => decide (ns.getD i 0 > ns.getD j 0)) (xs.length - 1)
  have hm := best_val (fun i => ns.getD i 0) (xs.length - 1)
  generalize argBest (fun i j => decide (ns.getD i 0 > ns.getD j 0)) (xs.length - 1) = k at hv hb hm
  rw [List.getElem?_toArray, List.getElem?_map] at hv
  cases hx : xs[k]? with
  | none => rw [hx] at hv; cases hv
  | some q =>
    rw [hx] at hv
    cases hv
    have hq : ns[k]? = some q.1 := by rw [← e, List.getElem?_map, hx]; rfl
    refine ⟨q.2, ?_⟩
    show Value.int q.1 q.2 = Value.int (mz ns) q.2
    rw [mz_unique (List.mem_of_getElem? hq) hp fun n hn' => ?_]
    obtain ⟨i, hi, rfl⟩ := List.getElem_of_mem hn'
    have := hm i (by omega)
    simp only [List.getD, hq, Option.getD_some] at this
    rw [List.getElem?_eq_getElem hi] at this
    exact this
def rMax1 : List V → Hp → VK → Prop := fun xs H Q => ∃ (p : Addr) (ns : List Int), xs = [.ref p] ∧ H p = some (.lst (ns.map V.int)) ∧ ns ≠ [] ∧ (∀ n ∈ ns, 0 ≤ n) ∧ Q (.int (mz ns)) H
theorem at_int {xs : List (Int × Tok)} {ns : List Int} (e : xs.map (·.1) = ns) (i : Nat) (v : Value) (h : (xs.map fun p => Value.int p.1 p.2).toArray[i]? = some v) : ∃ t, v = .int (ns.getD i 0) t := by
  rw [List.getElem?_toArray, List.getElem?_map] at h
  cases hx : xs[i]? with
  | none => rw [hx] at h; cases h
  | some q =>
    rw [hx] at h
    cases h
    refine ⟨q.2, ?_⟩
    have : ns[i]? = some q.1 := by rw [← e, List.getElem?_map, hx]; rfl
    simp [List.getD, this]
theorem call_max1 (hc : X.calm = true) : CallR X (.builtin "max") rMax1 := by
  intro pins s σ H xs us Q I r h
  obtain ⟨p, ns, rfl, hp, hne, h0, q⟩ := h
  obtain ⟨u, rfl, ru⟩ := Vals.one r
  cases ru
  refine call_max_walk (walk_list hc I hp fun its rv s2 st hfp hne2 W hI => ?_)
  obtain ⟨xs, rfl, e⟩ := vals_intItems rv
  have hx : 0 < xs.length := by
    rw [show xs.length = ns.length by rw [← e, List.length_map]]
    exact List.length_pos_iff.mpr hne
  refine ⟨_, _, _, _, _, _, fun i j => decide (ns.getD i 0 > ns.getD j 0), rfl, W, st, hfp, by simpa using hx, CmpOf.ints_gt (fun i => ns.getD i 0) (at_int e), fun v h' tk hP hk => ?_⟩
  obtain ⟨t, rfl⟩ := best_mz e hx h0 (v := v) (by simpa using hP)
  exact ⟨.int (mz ns), H, hI h' tk hk, ⟨_, rfl⟩, q⟩
def tMaxD (t tk : TA) : TE := fun σ H Q => t σ H fun vs H1 => tk σ H1 fun zs H2 => ∃ (p : Addr) (ns : List Int), vs = [.ref p] ∧ zs = [.int 0] ∧ H2 p = some (.lst (ns.map V.int)) ∧ (∀ n ∈ ns, 0 ≤ n) ∧ Q (.int (mz ns)) H2
end
section
variable {K : PySem.W.Frag} {σ : St} {H : Hp} {Q : VK}
theorem w_maxD {t tk : TA} : tMaxD t tk σ H Q = t σ H fun vs H1 => tk σ H1 fun zs H2 => ∃ (p : Addr) (ns : List Int), vs = [.ref p] ∧ zs = [.int 0] ∧ H2 p = some (.lst (ns.map V.int)) ∧ (∀ n ∈ ns, 0 ≤ n) ∧ Q (.int (mz ns)) H2 := rfl
theorem w_sl {r : V → Option Int → Option Int → Hp → VK → Prop} {te : TE} {tl th : TO} : tSl r te tl th σ H Q = te σ H fun x H1 => tl σ H1 fun l H2 => th σ H2 fun u H3 => r x l u H3 Q := rfl
theorem w_noPart {R : Option Int → Hp → Prop} : tNoPart σ H R = R none H := rfl
theorem w_part {t : TE} {R : Option Int → Hp → Prop} : tPart t σ H R = t σ H fun x H1 => ∃ i, x = .int i ∧ R (some i) H1 := rfl
theorem w_slL {a : Addr} {lo hi : Option Int} : rSlL K (.ref a) lo hi H Q = ∃ xs, SqL K H a xs ∧ ∀ p, H p = none → Q (.ref p) (upd H p (.lst (cutV xs lo hi))) :=
  propext ⟨fun ⟨a', xs, e, h, q⟩ => by cases e; exact ⟨xs, h, q⟩, fun ⟨xs, h, q⟩ => ⟨a, xs, rfl, h, q⟩⟩
theorem comp_new {J : It} {xs : List V} {cs : List Nat} {tt : TT} {te : TE} (f : V → Option V) (hz : xs.length ≤ sizeLine)
    (hJ : ∀ H', Same H H' → (∀ i, i < xs.length → J.go i H') ∧ (∀ i x H2, J.yld i H' x H2 → H2 = H' ∧ (i < xs.length → xs[i]? = some x)) ∧ J.stop xs.length H')
    (hb : ∀ x H' (R : Option V → Hp → Prop), x ∈ xs → Same H H' → (∀ H5, Same H' H5 → R (f x) H5) → tt (some x :: capV cs σ) H' fun b H4 => if b = true then te (some x :: capV cs σ) H4 fun y H5 => R (some y) H5 else R none H4)
    (hd : ∀ acc H', H acc = none → Same H H' → H' acc = some (.lst (xs.filterMap f)) → Q (.ref acc) H') : CompIt J 1 cs (gName 0) tt te σ H Q := by
  intro acc hn
  refine ⟨fun i m ys σ' H' => m = xs.length - i ∧ i ≤ xs.length ∧ (∃ o, σ' = o :: capV cs σ) ∧ ys = (xs.take i).filterMap f ∧ H' acc = some (.lst ys) ∧ Same H H', ⟨_, rfl, Nat.zero_le _, ⟨none, rfl⟩, by simp, upd_same, same_new hn _⟩, ?_⟩
  rintro i m ys σ' H' ⟨rfl, hi, ⟨o, rfl⟩, hys, ha, sm⟩
  refine ⟨ha, ?_⟩
  have hl : ys.length ≤ i := by
    rw [hys]
    exact Nat.le_trans (List.length_filterMap_le _ _) (by rw [List.length_take]; omega)
  by_cases hlt : i < xs.length
  · refine .inr ⟨(hJ _ sm).1 i hlt, by omega, fun zs σ2 H2 => (∃ o, σ2 = o :: capV cs σ) ∧ zs = (xs.take (i + 1)).filterMap f ∧ H2 acc = some (.lst zs) ∧ Same H H2, fun zs σ2 H2 ⟨q1, q2, q3, q4⟩ => ⟨xs.length - (i + 1), by omega, rfl, hlt, q1, q2, q3, q4⟩, fun x H2 y => ?_⟩
    obtain ⟨e, hx⟩ := (hJ _ sm).2.1 i x H2 y
    have hx := hx hlt
    subst e
    have tk : xs.take (i + 1) = xs.take i ++ [x] := by rw [List.take_add_one, hx]; rfl
    show tt (some x :: capV cs σ) _ _
    refine hb x _ (fun o H5 => match o with | some y => H5 acc = some (.lst ys) ∧ (∃ o, some x :: capV cs σ = o :: capV cs σ) ∧ ys ++ [y] = (xs.take (i + 1)).filterMap f ∧ upd H5 acc (.lst (ys ++ [y])) acc = some (.lst (ys ++ [y])) ∧ Same H (upd H5 acc (.lst (ys ++ [y]))) | none => (∃ o, some x :: capV cs σ = o :: capV cs σ) ∧ ys = (xs.take (i + 1)).filterMap f ∧ H5 acc = some (.lst ys) ∧ Same H H5) (List.mem_of_getElem? hx) sm fun H5 s5 => ?_
    cases hf : f x with
    | none =>
      refine ⟨⟨_, rfl⟩, ?_, s5 _ _ ha, sm.trans s5⟩
      rw [tk, List.filterMap_append, ← hys]
      simp [hf]
    | some y =>
      refine ⟨s5 _ _ ha, ⟨_, rfl⟩, ?_, upd_same, same_upd hn (sm.trans s5)⟩
      rw [tk, List.filterMap_append, ← hys]
      simp [hf]
  · have e : i = xs.length := by omega
    subst e
    rw [List.take_length] at hys
    subst hys
    exact .inl ⟨(hJ _ sm).2.2, hd acc H' hn sm ha⟩
theorem comp_newL {a : Addr} {xs : List V} {cs : List Nat} {tt : TT} {te : TE} (h : SqL K H a xs) (hz : xs.length ≤ sizeLine) (f : V → Option V)
    (hb : ∀ x H' (R : Option V → Hp → Prop), x ∈ xs → Same H H' → (∀ H5, Same H' H5 → R (f x) H5) → tt (some x :: capV cs σ) H' fun b H4 => if b = true then te (some x :: capV cs σ) H4 fun y H5 => R (some y) H5 else R none H4)
    (hd : ∀ acc H', H acc = none → Same H H' → H' acc = some (.lst (xs.filterMap f)) → Q (.ref acc) H') : CompIt (Itl K a) 1 cs (gName 0) tt te σ H Q :=
  comp_new f hz (fun H' s => by
    have h' := s.seq h
    exact ⟨fun i hi => ⟨xs, xs[i], h', by simp [hi]⟩, fun i x H2 y => ⟨y.1, fun _ => y.2 xs h'⟩, ⟨xs, h', Nat.le_refl _⟩⟩) hb hd
def liI (g : Int → Int) : V → Option V := fun x => match x with
  | .int n => some (.int (g n))
  | _ => none
theorem liI_map (g : Int → Int) : ∀ (ns : List Int), (ns.map V.int).filterMap (liI g) = (ns.map g).map V.int
  | [] => rfl
  | n :: r => by
    rw [List.map_cons, List.filterMap_cons_some (f := liI g) (a := V.int n) (b := V.int (g n)) rfl, liI_map g r]
    rfl
end
def halN (c : Int) : Nat := if c > 1 then Builtin.Int.intBits (c - 1) else 0
theorem hal_iff {c : Int} {d : Nat} : halN c ≤ d ↔ c ≤ 2 ^ d := by
  have p := pow_pos2 d
  unfold halN
  by_cases h : c > 1
  · rw [if_pos h]
    constructor
    · intro hb
      have h1 := lt_bits (c - 1)
      have h2 : (c - 1).natAbs < 2 ^ d := Nat.lt_of_lt_of_le h1 (Nat.pow_le_pow_right (by decide) hb)
      have e : ((2 ^ d : Nat) : Int) = 2 ^ d := by rw [Int.natCast_pow]; rfl
      omega
    · intro hb
      refine bits_le ?_
      have e : ((2 ^ d : Nat) : Int) = 2 ^ d := by rw [Int.natCast_pow]; rfl
      omega
  · rw [if_neg h]
    constructor
    · intro _; omega
    · intro _; omega
theorem hal_mono {x y : Int} (h : x ≤ y) : (halN x : Int) ≤ halN y := by
  have h1 : y ≤ 2 ^ halN y := hal_iff.mp (Nat.le_refl _)
  have h2 : halN x ≤ halN y := hal_iff.mpr (Int.le_trans h h1)
  omega
def ld (ns : List Int) : Int := mz (ns.map fun n => ((halN (wn n : Nat) : Nat) : Int))
theorem ld_few (ns : List Int) : ld ns = ((halN (mz (ns.map fun n => ((wn n : Nat) : Int))) : Nat) : Int) := by
  unfold ld
  rw [show (ns.map fun n => ((halN (wn n : Nat) : Nat) : Int)) = (ns.map fun n => ((wn n : Nat) : Int)).map fun c => ((halN c : Nat) : Int) by rw [List.map_map]; rfl]
  exact mz_map (f := fun c => ((halN c : Nat) : Int)) (by rfl) (fun x y h => hal_mono h) _
def spLD : Sp := fun vs H Q _ => ∃ (a : Addr) (ns : List Int), vs = [.ref a] ∧ H a = some (.lst (ns.map V.int)) ∧ ns.length ≤ 1000 ∧ (∀ n ∈ ns, n.natAbs < 2 ^ 5000) ∧ ∀ H', Same H H' → Q (.int (ld ns)) H'
def spNumbers (K : PySem.W.Frag) : Sp := fun vs H Q _ => ∃ (p a : Addr) (ns : List Int) (c : Int), vs = [.ref p] ∧ Pen H p a c ∧ Scr K H a ns ∧ ns.length ≤ 63 ∧ c ≤ 10000000 ∧
  ∀ (r : Addr) (xs : List Int) H', H r = none → H' r = some (.lst (xs.map V.int)) → xs.length ≤ 6 → (∀ x ∈ xs, x.natAbs < 2 ^ 200) → Pen H' p a (c + 1000) → Scr K H' a ns → Chg p H H' → Q (.ref r) H'
theorem wn_bound {n : Int} {k : Nat} (h : n.natAbs < 2 ^ k) : wn n ≤ k + 1 := Nat.le_trans (List.length_filter_le _ _) (naf_len k n h)
end L2
set_option Elab.async false
set_option linter.all false
set_option maxRecDepth 100000
set_option maxHeartbeats 1000000
namespace L2
open PySem PySem.Spec PyProof.Rows
def rListD : List V → Hp → VK → Prop := fun xs H Q => ∃ (p : Addr) (kvs : List (Key × V)), xs = [.ref p] ∧ H p = some (.dK kvs) ∧ ∀ l, H l = none → Q (.ref l) (upd H l (.lst (kvs.map fun q => kV q.1)))
theorem key_rel {k : Key} {v : Value} (h : keyIs k v = true) : RelV (kV k) v := by
  rcases keyIs_shape h with ⟨i, t, rfl, rfl⟩ | ⟨x, t, rfl, rfl⟩
  · exact ⟨t, rfl⟩
  · exact ⟨t, rfl⟩
theorem keys_vals {kvs : List (Key × V)} {vs : List (Key × Value)} (r : KV kvs vs) : ∀ (us : List Value), us.length = vs.length → (∀ (j : Nat) (v : Value), us[j]? = some v → ∃ (k : Key) (x : Value), vs[j]? = some (k, x) ∧ keyIs k v = true) → Vals (kvs.map fun q => kV q.1) us := by
  induction r with
  | nil =>
    intro us hl _
    have : us = [] := List.length_eq_zero_iff.mp hl
    subst this
    exact .nil
  | cons h _ ih =>
    intro us hl hv
    cases us with
    | nil => simp at hl
    | cons u us =>
      obtain ⟨k, x, e, hk⟩ := hv 0 u rfl
      simp only [List.getElem?_cons_zero, Option.some.injEq] at e
      rw [List.map_cons]
      refine .cons ?_ (ih us (by simpa using hl) fun j v hj => by simpa using hv (j + 1) v (by simpa using hj))
      rw [h.1, e]
      exact key_rel hk
theorem call_list_keys {X : Cx} (hc : X.calm = true) : CallR X (.type "list") rListD := by
  intro pins s σ H xs us Q I r h
  obtain ⟨p, kvs, rfl, hp, q⟩ := h
  obtain ⟨u, rfl, rx⟩ := vals1 r
  cases rx
  obtain ⟨z, hd, vs, rel, dd⟩ := dk_rd I.hok (.inl hp)
  obtain ⟨ep, hat⟩ := dd.dictAt
  have hl : kvs.length = vs.length := by
    have : ∀ {a : List (Key × V)} {b : List (Key × Value)}, KV a b → a.length = b.length := by
      intro a b r
      induction r with
      | nil => rfl
      | cons _ _ ih => simp [ih]
    exact this rel
  refine PySem.W.kdl_call (PySem.W.kdl_dict (knd := mixKind X.prog X.w) (kvs := vs) (ep := ep) hd) (I.ok.hd hc) hat (by omega) fun h' tk acc' c' kp e it => ?_
  have rv : Vals (kvs.map fun q => kV q.1) acc'.toList := keys_vals rel _ (by rw [Array.length_toList]; exact it.1) fun j v hj => it.2 j v (by rw [← Array.getElem?_toList]; exact hj)
  exact ⟨.ref s.heap.objs.size, _, I.laid (t' := tk) kp (Nat.le_refl _) (show ObjOk X.prog X.w _ h' _ (.lst _) from ⟨by rw [List.length_map]; exact z, acc'.toList, c', rv, by simpa using e⟩), rfl, q _ (I.hok.fresh (Nat.le_refl _))⟩
section
variable {σ : St} {H : Hp} {Q : VK} {D : Ends}
theorem w_aug {i : Nat} {te : TE} {ti : TIp} : tAug i te ti D σ H = ∃ x, σ[i]? = some (some x) ∧ te σ H fun y H1 => ti x y H1 fun z H2 => D.nx (σ.set i (some z)) H2 := rfl
theorem w_ipI {f : Int → Int → Int} {i j : Int} : ipI f (.int i) (.int j) H Q = Q (.int (f i j)) H := propext ⟨fun ⟨_, _, e1, e2, q⟩ => by cases e1; cases e2; exact q, fun q => ⟨i, j, rfl, rfl, q⟩⟩
theorem w_dnK : tDNewK σ H Q = ∀ p, H p = none → Q (.ref p) (upd H p (.dK [])) := rfl
end
structure Dd where
  g : Int
  a : Nat
  s : Nat
  b : Nat
  t : Nat
def dnum (ns : List Int) (d : Dd) : Int := ns.getD d.a 0 * 2 ^ d.s + d.g * (ns.getD d.b 0 * 2 ^ d.t)
def ev (ds : List Dd) : List Int := ds.foldl (fun ns d => ns ++ [dnum ns d]) [1]
theorem ev_snoc (ds : List Dd) (d : Dd) : ev (ds ++ [d]) = ev ds ++ [dnum (ev ds) d] := by unfold ev; rw [List.foldl_append]; rfl
theorem snoc_ind {α : Type} {p : List α → Prop} (h0 : p []) (hs : ∀ xs x, p xs → p (xs ++ [x])) (xs : List α) : p xs := by
  have : p xs.reverse.reverse := by
    generalize xs.reverse = ys
    induction ys with
    | nil => exact h0
    | cons y r ih => rw [List.reverse_cons]; exact hs _ _ ih
  rwa [List.reverse_reverse] at this
theorem ev_len (ds : List Dd) : (ev ds).length = ds.length + 1 := by
  refine snoc_ind (p := fun ds => (ev ds).length = ds.length + 1) rfl (fun xs x h => ?_) ds
  rw [ev_snoc, List.length_append, List.length_append, h]
  rfl
theorem ev_pre (ds new : List Dd) {k : Nat} {n : Int} (h : (ev ds)[k]? = some n) : (ev (ds ++ new))[k]? = some n := by
  refine snoc_ind (p := fun new => (ev (ds ++ new))[k]? = some n) (by rw [List.append_nil]; exact h) (fun xs x ih => ?_) new
  rw [← List.append_assoc, ev_snoc, List.getElem?_append_left (List.getElem?_eq_some_iff.mp ih).1]
  exact ih
structure DOk (ds : List Dd) : Prop where
  at_ : ∀ (k : Nat) (d : Dd), ds[k]? = some d → d.a ≤ k ∧ d.b ≤ k ∧ d.s ≤ 300 ∧ d.t ≤ 300 ∧ (d.g = 1 ∨ d.g = -1)
  big : ∀ n ∈ ev ds, n.natAbs < 2 ^ 300
theorem DOk.snoc {ds : List Dd} {d : Dd} (h : DOk ds) (h1 : d.a ≤ ds.length) (h1' : d.b ≤ ds.length) (h2 : d.s ≤ 300) (h2' : d.t ≤ 300) (h3 : d.g = 1 ∨ d.g = -1) (h4 : (dnum (ev ds) d).natAbs < 2 ^ 300) : DOk (ds ++ [d]) := by
  refine ⟨fun k e he => ?_, fun n hn => ?_⟩
  · by_cases hk : k < ds.length
    · rw [List.getElem?_append_left hk] at he
      exact h.at_ k e he
    · rw [List.getElem?_append_right (by omega)] at he
      have hk0 : k - ds.length = 0 := by
        cases hz : k - ds.length with
        | zero => rfl
        | succ j => rw [hz] at he; simp at he
      rw [hk0] at he
      cases he
      exact ⟨by omega, by omega, h2, h2', h3⟩
  · rw [ev_snoc] at hn
    rcases List.mem_append.mp hn with z | z
    · exact h.big n z
    · rw [List.mem_singleton.mp z]; exact h4
theorem dok_nil : DOk [] := ⟨fun k d h => by simp at h, fun n hn => by rw [List.mem_singleton.mp hn]; exact Nat.lt_of_lt_of_le (by decide : 1 < 2 ^ 1) (Nat.pow_le_pow_right (by decide) (by decide))⟩
def wordOf (g : Int) : Str := if g = 1 then "sum" else "less"
def dTup (d : Dd) : List V := [.str (wordOf d.g), .int d.a, .int d.s, .int d.b, .int d.t]
def deedOf (a s : Nat) (g : Int) (b t : Nat) (h : Int) : Dd := if g = h then ⟨1, a, s, b, t⟩ else if g = 1 then ⟨-1, a, s, b, t⟩ else ⟨-1, b, t, a, s⟩
def signOf (g h : Int) : Int := if g = h then g else 1
structure HDs (H : Hp) (vs : List V) (ds : List Dd) : Prop where
  len : vs.length = ds.length
  at_ : ∀ (k : Nat) (d : Dd), ds[k]? = some d → ∃ x : Addr, vs[k]? = some (.ref x) ∧ H x = some (.tup (dTup d))
theorem HDs.same {H H' : Hp} {vs : List V} {ds : List Dd} (h : HDs H vs ds) (s : Same H H') : HDs H' vs ds := ⟨h.len, fun k d e => by
  obtain ⟨x, e1, e2⟩ := h.at_ k d e
  exact ⟨x, e1, s _ _ e2⟩⟩
theorem HDs.chgL {H H' : Hp} {vs us : List V} {ds : List Dd} {l : Addr} (h : HDs H vs ds) (hl : H l = some (.lst us)) (c : Chg l H H') : HDs H' vs ds := ⟨h.len, fun k d e => by
  obtain ⟨x, e1, e2⟩ := h.at_ k d e
  exact ⟨x, e1, c _ _ (ne_of e2 hl (by intro z; cases z)) e2⟩⟩
theorem HDs.chgD {H H' : Hp} {vs : List V} {kvs : List (Key × V)} {ds : List Dd} {l : Addr} (h : HDs H vs ds) (hl : H l = some (.dK kvs)) (c : Chg l H H') : HDs H' vs ds := ⟨h.len, fun k d e => by
  obtain ⟨x, e1, e2⟩ := h.at_ k d e
  exact ⟨x, e1, c _ _ (ne_of e2 hl (by intro z; cases z)) e2⟩⟩
theorem HDs.snoc {H : Hp} {vs : List V} {ds : List Dd} {d : Dd} {x : Addr} (h : HDs H vs ds) (hx : H x = some (.tup (dTup d))) : HDs H (vs ++ [.ref x]) (ds ++ [d]) := by
  refine ⟨by simp [h.len], fun k e he => ?_⟩
  by_cases hk : k < ds.length
  · rw [List.getElem?_append_left hk] at he
    obtain ⟨y, e1, e2⟩ := h.at_ k e he
    exact ⟨y, by rw [List.getElem?_append_left (by rw [h.len]; exact hk)]; exact e1, e2⟩
  · rw [List.getElem?_append_right (by omega)] at he
    have hk0 : k - ds.length = 0 := by
      cases hz : k - ds.length with
      | zero => rfl
      | succ j => rw [hz] at he; simp at he
    rw [hk0] at he
    cases he
    refine ⟨x, ?_, hx⟩
    rw [List.getElem?_append_right (by rw [h.len]; omega), h.len, hk0]
    rfl
theorem hds_nil {H : Hp} : HDs H [] [] := ⟨rfl, fun k d h => by simp at h⟩
theorem naf_top : ∀ n : Int, 0 < n → (naf n).getLast? = some 1 := naf_ind (fun h => by omega) fun n h ih hn => by
  have hm := m_nonneg hn
  rw [naf_step h]
  by_cases z : (n - fs n) / 2 = 0
  · rw [z, naf_zero]
    rcases fs_cases n with ⟨e, e2⟩ | ⟨e, e2⟩ | ⟨e, e2⟩
    · rw [e] at z; omega
    · rw [e]; rfl
    · rw [e] at z; omega
  · rw [List.getLast?_cons, ih (by omega)]
    rfl
theorem naf_rev {n : Int} (h : 0 < n) : (naf n).reverse = 1 :: (naf n).dropLast.reverse := by
  have ht := naf_top n h
  have hne := naf_ne (n := n) (by omega)
  have e := List.dropLast_concat_getLast hne
  have : (naf n).getLast hne = 1 := by
    rw [List.getLast?_eq_some_getLast hne] at ht
    exact Option.some.inj ht
  rw [this] at e
  conv => lhs; rw [← e]
  rw [List.reverse_append]
  rfl
theorem chain_end {n k : Int} {gap : Nat} (h : n * 2 ^ gap = k) (ho : k % 2 = 1) : gap = 0 ∧ n = k := by
  cases gap with
  | zero => exact ⟨rfl, by rw [← h, Int.pow_zero, Int.mul_one]⟩
  | succ g =>
    rw [Int.pow_succ, ← Int.mul_assoc] at h
    omega
def coreN (n : Int) : Int := (coreL n).headD 0
def shN (n : Int) : Int := (coreL n).getD 1 0
def sgN (n : Int) : Int := (coreL n).getD 2 0
theorem core_three (n : Int) : coreL n = [coreN n, shN n, sgN n] := by
  by_cases h : n = 0
  · subst h; rfl
  · obtain ⟨m, k, e1, e2⟩ := core_fact h
    unfold coreN shN sgN
    rw [e2]
    rfl
theorem core_props {n : Int} (h : n ≠ 0) : 0 < coreN n ∧ coreN n % 2 = 1 ∧ ∃ k : Nat, shN n = k ∧ coreN n * 2 ^ k * sgN n = n ∧ (sgN n = 1 ∨ sgN n = -1) ∧ (coreN n).natAbs ≤ n.natAbs ∧ 2 ^ k ≤ n.natAbs ∧ wn (coreN n) = wn n := by
  obtain ⟨m, k, e1, e2⟩ := core_fact h
  have ec : coreN n = 2 * (m : Int) + 1 := by unfold coreN; rw [e2]; rfl
  have es : shN n = k := by unfold shN; rw [e2]; rfl
  have eg : sgN n = if 0 < n then 1 else -1 := by unfold sgN; rw [e2]; rfl
  have en : coreN n * 2 ^ k * sgN n = n := by
    rw [ec, eg, ← e1]
    unfold absI
    split <;> split <;> omega
  have p := pow_pos2 k
  have ea : absI n = ((n.natAbs : Nat) : Int) := by unfold absI; split <;> omega
  have e3 : ((n.natAbs : Nat) : Int) = (2 * (m : Int) + 1) * 2 ^ k := by rw [← ea, e1]
  have e4 : n.natAbs = (2 * m + 1) * 2 ^ k := by
    have : ((n.natAbs : Nat) : Int) = (((2 * m + 1) * 2 ^ k : Nat) : Int) := by rw [e3, Int.natCast_mul, Int.natCast_pow]; rfl
    exact Int.ofNat.inj this
  refine ⟨by omega, by omega, k, es, en, by rw [eg]; split <;> simp, ?_, ?_, ?_⟩
  · rw [ec, e4]
    have : (2 * (m : Int) + 1).natAbs = 2 * m + 1 := by omega
    rw [this]
    exact Nat.le_mul_of_pos_right _ (Nat.two_pow_pos k)
  · rw [e4]
    exact Nat.le_mul_of_pos_left _ (by omega)
  · have hk : ∀ (k : Nat) (c : Int), wn (c * 2 ^ k) = wn c := by
      intro k
      induction k with
      | zero => intro c; rw [Int.pow_zero, Int.mul_one]
      | succ k ih => intro c; rw [Int.pow_succ, ← Int.mul_assoc, Int.mul_comm _ 2, wn_dbl, ih]
    rcases (show sgN n = 1 ∨ sgN n = -1 by rw [eg]; split <;> simp) with e | e
    · rw [e, Int.mul_one] at en
      rw [← hk k, en]
    · rw [e, Int.mul_neg, Int.mul_one] at en
      rw [← hk k, ← wn_neg, en]
def ucs (us : List Int) (n : Int) : List Int := if n = 0 then us else if coreN n ∈ us then us else us ++ [coreN n]
def uc (xs : List Int) : List Int := xs.foldl ucs []
theorem ucs_sub {us : List Int} {n c : Int} (h : c ∈ us) : c ∈ ucs us n := by
  unfold ucs
  split
  · exact h
  · split
    · exact h
    · exact List.mem_append_left _ h
theorem ucs_has {us : List Int} {n : Int} (h : n ≠ 0) : coreN n ∈ ucs us n := by
  unfold ucs
  rw [if_neg h]
  by_cases hc : coreN n ∈ us
  · rw [if_pos hc]; exact hc
  · rw [if_neg hc]; exact List.mem_append_right _ List.mem_cons_self
theorem uc_snoc (xs : List Int) (n : Int) : uc (xs ++ [n]) = ucs (uc xs) n := by unfold uc; rw [List.foldl_append]; rfl
theorem uc_has (xs : List Int) : ∀ n ∈ xs, n ≠ 0 → coreN n ∈ uc xs := by
  refine snoc_ind (p := fun xs => ∀ n ∈ xs, n ≠ 0 → coreN n ∈ uc xs) (by simp) (fun xs x ih n hn h0 => ?_) xs
  rw [uc_snoc]
  rcases List.mem_append.mp hn with z | z
  · exact ucs_sub (ih n z h0)
  · rw [List.mem_singleton.mp z]
    rw [List.mem_singleton.mp z] at h0
    exact ucs_has h0
theorem uc_of (xs : List Int) : ∀ c ∈ uc xs, ∃ n ∈ xs, n ≠ 0 ∧ c = coreN n := by
  refine snoc_ind (p := fun xs => ∀ c ∈ uc xs, ∃ n ∈ xs, n ≠ 0 ∧ c = coreN n) (by intro c h; cases h) (fun xs x ih c hc => ?_) xs
  rw [uc_snoc] at hc
  have old : c ∈ uc xs → ∃ n ∈ xs ++ [x], n ≠ 0 ∧ c = coreN n := fun h => by
    obtain ⟨n, hn, r⟩ := ih c h
    exact ⟨n, List.mem_append_left _ hn, r⟩
  unfold ucs at hc
  by_cases h0 : x = 0
  · rw [if_pos h0] at hc; exact old hc
  · rw [if_neg h0] at hc
    by_cases hm : coreN x ∈ uc xs
    · rw [if_pos hm] at hc; exact old hc
    · rw [if_neg hm] at hc
      rcases List.mem_append.mp hc with z | z
      · exact old z
      · exact ⟨x, List.mem_append_right _ List.mem_cons_self, h0, List.mem_singleton.mp z⟩
theorem uc_len (xs : List Int) : (uc xs).length ≤ xs.length := by
  refine snoc_ind (p := fun xs => (uc xs).length ≤ xs.length) (Nat.le_refl _) (fun xs x ih => ?_) xs
  rw [uc_snoc, List.length_append]
  unfold ucs
  split
  · simp; omega
  · split
    · simp; omega
    · simp; omega
theorem uc_nodup (xs : List Int) : (uc xs).Nodup := by
  refine snoc_ind (p := fun xs => (uc xs).Nodup) List.nodup_nil (fun xs x ih => ?_) xs
  rw [uc_snoc]
  unfold ucs
  split
  · exact ih
  · split
    · exact ih
    · rename_i h
      rw [List.nodup_append]
      exact ⟨ih, by simp, fun a ha b hb e => h (by rw [← List.mem_singleton.mp hb, ← e]; exact ha)⟩
def costS (us : List Int) : Nat := (us.map fun c => wn c - 1).sum
def boundI (xs : List Int) : Int := ((xs.filter fun n => decide (n ≠ 0)).map fun n => ((wn n : Nat) : Int) - 1).sum
theorem cost_le (xs : List Int) : ((costS (uc xs) : Nat) : Int) ≤ boundI xs := by
  refine snoc_ind (p := fun xs => ((costS (uc xs) : Nat) : Int) ≤ boundI xs) (by decide) (fun xs x ih => ?_) xs
  rw [uc_snoc]
  unfold boundI at ih ⊢
  rw [List.filter_append, List.map_append, List.sum_append]
  by_cases h0 : x = 0
  · subst h0
    unfold ucs
    rw [if_pos rfl]
    have e0 : List.filter (fun n : Int => decide (n ≠ 0)) [0] = [] := rfl
    rw [e0, List.map_nil, List.sum_nil, Int.add_zero]
    exact ih
  · have hw : wn x ≠ 0 := fun z => h0 (wn_eq0.mp z)
    have e1 : (List.filter (fun n => decide (n ≠ 0)) [x]) = [x] := by simp [h0]
    rw [e1, List.map_cons, List.map_nil, List.sum_cons, List.sum_nil]
    unfold ucs
    rw [if_neg h0]
    by_cases hc : coreN x ∈ uc xs
    · rw [if_pos hc]; omega
    · rw [if_neg hc]
      unfold costS at ih ⊢
      rw [List.map_append, List.sum_append, List.map_cons, List.map_nil, List.sum_cons, List.sum_nil]
      have := (core_props h0).2.2
      obtain ⟨k, _, _, _, _, _, hwn⟩ := this
      rw [hwn]
      omega
def ukv (us : List Int) : List (Key × V) := us.map fun c => (Sum.inl c, V.bl true)
theorem ukv_val : ∀ (us : List Int) (c : Int), valV (ukv us) (.inl c) = if c ∈ us then some (.bl true) else none
  | [], c => by simp [ukv, valV_nil]
  | u :: r, c => by
    show valV ((Sum.inl u, V.bl true) :: ukv r) (.inl c) = _
    by_cases h : u = c
    · subst h
      rw [valV_pos rfl, if_pos List.mem_cons_self]
    · rw [valV_neg (fun z => h (Sum.inl.inj z)), ukv_val r c]
      by_cases hm : c ∈ r
      · rw [if_pos hm, if_pos (List.mem_cons_of_mem _ hm)]
      · rw [if_neg hm, if_neg (by intro z; rcases List.mem_cons.mp z with e | e; exact h e.symm; exact hm e)]
theorem ukv_put (us : List Int) (c : Int) : putK (ukv us) (.inl c) (.bl true) = ukv (if c ∈ us then us else us ++ [c]) := by
  by_cases h : c ∈ us
  · rw [if_pos h]
    unfold putK
    rw [valV_any, ukv_val, if_pos h, if_pos (show (some (V.bl true)).isSome = true from rfl)]
    unfold ukv
    rw [List.map_map]
    refine List.map_congr_left fun x _ => ?_
    show (if (Sum.inl x : Key) = Sum.inl c then ((Sum.inl x : Key), V.bl true) else (Sum.inl x, V.bl true)) = _
    split <;> rfl
  · rw [if_neg h, putK_new _ (by rw [ukv_val, if_neg h])]
    unfold ukv
    rw [List.map_append]
    rfl
theorem ukv_keys (us : List Int) : (ukv us).map (fun q => kV q.1) = us.map V.int := by
  unfold ukv
  rw [List.map_map]
  rfl
def spCoreT : Sp := fun vs H Q _ => ∃ n : Int, vs = [.int n] ∧ ∀ p, H p = none → Q (.ref p) (upd H p (.tup [.int (coreN n), .int (shN n), .int (sgN n)]))
def spUC : Sp := fun vs H Q _ => ∃ (a : Addr) (xs : List Int), vs = [.ref a] ∧ H a = some (.lst (xs.map V.int)) ∧ xs.length ≤ 1000 ∧ ∀ l H', H l = none → Same H H' → H' l = some (.lst ((uc xs).map V.int)) → Q (.ref l) H'
def spDeedOf : Sp := fun vs H Q _ => ∃ (x y : Addr) (a b t : Nat) (u : Nat) (g h : Int), vs = [.ref x, .ref y] ∧ H x = some (.tup [.int a, .int u, .int g]) ∧ H y = some (.tup [.int b, .int t, .int h]) ∧ (g = 1 ∨ g = -1) ∧ (h = 1 ∨ h = -1) ∧
  ∀ r, H r = none → Q (.ref r) (upd H r (.tup (dTup (deedOf a u g b t h))))
def CT0 (K : PySem.W.Frag) (t : Addr) : Prop := ∃ (o : Obj) (its : Array Value) (n : Nat), K.lookup t = some o ∧ o.cls = .type "tuple" ∧ o.data = .seq its n ∧ its.size ≤ sizeLine ∧ Vals [.int 0, .int 0, .int 0] its.toList
theorem CT0.sq {K : PySem.W.Frag} {t : Addr} (h : CT0 K t) (H : Hp) : SqT K H t [.int 0, .int 0, .int 0] := .inr h
structure OutOk (ns : List Int) (n : Int) (a b c : Int) : Prop where
  ok : (n = 0 ∧ a = 0 ∧ b = 0 ∧ c = 0) ∨ (n ≠ 0 ∧ ∃ (k j : Nat) (m : Int), a = k ∧ b = j ∧ j ≤ 300 ∧ (c = 1 ∨ c = -1) ∧ ns[k]? = some m ∧ m * 2 ^ j * c = n)
structure HOs (K : PySem.W.Frag) (H : Hp) (os : List V) (ns xs : List Int) : Prop where
  len : os.length = xs.length
  at_ : ∀ (k : Nat) (n : Int), xs[k]? = some n → ∃ (x : Addr) (a b c : Int), os[k]? = some (.ref x) ∧ SqT K H x [.int a, .int b, .int c] ∧ OutOk ns n a b c
theorem HOs.same {K : PySem.W.Frag} {H H' : Hp} {os : List V} {ns xs : List Int} (h : HOs K H os ns xs) (s : Same H H') : HOs K H' os ns xs := ⟨h.len, fun k n e => by
  obtain ⟨x, a, b, c, e1, e2, e3⟩ := h.at_ k n e
  exact ⟨x, a, b, c, e1, s.seqT e2, e3⟩⟩
theorem HOs.snoc {K : PySem.W.Frag} {H : Hp} {os : List V} {ns xs : List Int} {n a b c : Int} {x : Addr} (h : HOs K H os ns xs) (hx : SqT K H x [.int a, .int b, .int c]) (ho : OutOk ns n a b c) : HOs K H (os ++ [.ref x]) ns (xs ++ [n]) := by
  refine ⟨by simp [h.len], fun k e he => ?_⟩
  by_cases hk : k < xs.length
  · rw [List.getElem?_append_left hk] at he
    obtain ⟨y, a', b', c', e1, e2⟩ := h.at_ k e he
    exact ⟨y, a', b', c', by rw [List.getElem?_append_left (by rw [h.len]; exact hk)]; exact e1, e2⟩
  · rw [List.getElem?_append_right (by omega)] at he
    have hk0 : k - xs.length = 0 := by
      cases hz : k - xs.length with
      | zero => rfl
      | succ j => rw [hz] at he; simp at he
    rw [hk0] at he
    cases he
    refine ⟨x, a, b, c, ?_, hx, ho⟩
    rw [List.getElem?_append_right (by rw [h.len]; omega), h.len, hk0]
    rfl
theorem SqT.updL {K : PySem.W.Frag} {H : Hp} {x l : Addr} {xs us vs : List V} (h : SqT K H x xs) (hl : H l = some (.lst us)) : SqT K (upd H l (.lst vs)) x xs := by
  rcases h with (h | ⟨o, h⟩) | h
  · exact .inl (.inl (by rw [upd_ne (ne_of h hl (by intro z; cases z))]; exact h))
  · exact .inl (.inr ⟨o, by rw [upd_ne (ne_of h hl (by intro z; cases z))]; exact h⟩)
  · exact .inr h
theorem HOs.updL {K : PySem.W.Frag} {H : Hp} {os us vs : List V} {ns xs : List Int} {l : Addr} (h : HOs K H os ns xs) (hl : H l = some (.lst us)) : HOs K (upd H l (.lst vs)) os ns xs := ⟨h.len, fun k n e => by
  obtain ⟨x, a, b, c, e1, e2, e3⟩ := h.at_ k n e
  exact ⟨x, a, b, c, e1, e2.updL hl, e3⟩⟩
theorem costS_take {us : List Int} {i : Nat} {c : Int} (h : us[i]? = some c) : costS (us.take (i + 1)) = costS (us.take i) + (wn c - 1) := by
  unfold costS
  rw [List.take_add_one, h, List.map_append, List.sum_append]
  show _ + (List.map _ [c]).sum = _
  rw [List.map_cons, List.map_nil, List.sum_cons, List.sum_nil, Nat.add_zero]
theorem nodup_take {us : List Int} {i : Nat} {c : Int} (hn : us.Nodup) (h : us[i]? = some c) : c ∉ us.take i := by
  intro hm
  obtain ⟨j, hj, e⟩ := List.getElem_of_mem hm
  rw [List.length_take] at hj
  rw [List.getElem_take] at e
  obtain ⟨hi, e2⟩ := List.getElem?_eq_some_iff.mp h
  have := (List.nodup_iff_pairwise_ne.mp hn)
  have h3 := List.pairwise_iff_getElem.mp this j i (by omega) hi (by omega)
  exact h3 (e.trans e2.symm)
structure Row (K : PySem.W.Frag) (H : Hp) (t dl ol : Addr) (ds : List Dd) (xs : List Int) : Prop where
  tup : H t = some (.tup [.int 1, .ref dl, .ref ol])
  dls : ∃ us, H dl = some (.lst us) ∧ HDs H us ds
  ols : ∃ os, H ol = some (.lst os) ∧ HOs K H os (ev ds) xs
  ok : DOk ds
  ap : ol ≠ dl
theorem Row.same {K : PySem.W.Frag} {H H' : Hp} {t dl ol : Addr} {ds : List Dd} {xs : List Int} (h : Row K H t dl ol ds xs) (s : Same H H') : Row K H' t dl ol ds xs := by
  obtain ⟨us, h1, h2⟩ := h.dls
  obtain ⟨os, h3, h4⟩ := h.ols
  exact ⟨s _ _ h.tup, ⟨us, s _ _ h1, h2.same s⟩, ⟨os, s _ _ h3, h4.same s⟩, h.ok, h.ap⟩
theorem costS_le {us : List Int} (h : ∀ c ∈ us, c.natAbs < 2 ^ 200) : costS us ≤ 200 * us.length := by
  induction us with
  | nil => exact Nat.le_refl 0
  | cons c r ih =>
    have h1 := ih fun x hx => h x (List.mem_cons_of_mem _ hx)
    have h2 := wn_bound (h c List.mem_cons_self)
    unfold costS at h1 ⊢
    rw [List.map_cons, List.sum_cons, List.length_cons]
    omega
def spLSh : Sp := fun vs H Q _ => ∃ (n s : Int), vs = [.int n, .int s] ∧ 0 ≤ s ∧ s ≤ 300 ∧ n.natAbs < 2 ^ 300 ∧ Q (.int (n * 2 ^ s.toNat)) H
def spIsTh : Sp := fun vs H Q _ => ∃ (k : Int) (l : Addr) (us : List V), vs = [.int k, .ref l] ∧ H l = some (.lst us) ∧ 0 ≤ k ∧ k < us.length ∧ Q (.bl true) H
def spLDeed : Sp := fun vs H Q _ => ∃ (x l : Addr) (d : Dd) (ns : List Int), vs = [.ref x, .ref l] ∧ H x = some (.tup (dTup d)) ∧ H l = some (.lst (ns.map V.int)) ∧ d.a < ns.length ∧ d.b < ns.length ∧ d.s ≤ 300 ∧ d.t ≤ 300 ∧ (d.g = 1 ∨ d.g = -1) ∧ (∀ n ∈ ns, n.natAbs < 2 ^ 300) ∧
  ∀ H', Same H H' → Q (.int (dnum ns d)) H'
def spLOut (K : PySem.W.Frag) : Sp := fun vs H Q _ => ∃ (x l : Addr) (n a b c : Int) (ns : List Int), vs = [.ref x, .ref l] ∧ SqT K H x [.int a, .int b, .int c] ∧ H l = some (.lst (ns.map V.int)) ∧ OutOk ns n a b c ∧ (∀ n ∈ ns, n.natAbs < 2 ^ 300) ∧
  ∀ H', Same H H' → Q (.int n) H'
def spWalked (K : PySem.W.Frag) : Sp := fun vs H Q _ => ∃ (t dl ol : Addr) (ds : List Dd) (xs : List Int), vs = [.ref t] ∧ Row K H t dl ol ds xs ∧ xs.length ≤ 12 ∧ ds.length ≤ 3000 ∧
  ∀ (r s o : Addr) H', Same H H' → H' r = some (.lst [.ref s, .ref o]) → H' o = some (.lst (xs.map V.int)) → Q (.ref r) H'
def spBound : Sp := fun vs H Q _ => ∃ (a : Addr) (xs : List Int), vs = [.ref a] ∧ H a = some (.lst (xs.map V.int)) ∧ xs.length ≤ 12 ∧ (∀ x ∈ xs, x.natAbs < 2 ^ 200) ∧ ∀ H', Same H H' → Q (.int (boundI xs)) H'
def bndV : V → Option V := fun x => match x with
  | .int n => if n ≠ 0 then some (.int (((wn n : Nat) : Int) - 1)) else none
  | _ => none
theorem bndV_ne {n : Int} (h : ¬n = 0) : bndV (.int n) = some (.int (((wn n : Nat) : Int) - 1)) := by unfold bndV; exact if_pos h
theorem bndV_map : ∀ (xs : List Int), (xs.map V.int).filterMap bndV = ((xs.filter fun n => decide (n ≠ 0)).map fun n => ((wn n : Nat) : Int) - 1).map V.int
  | [] => rfl
  | n :: r => by
    rw [List.map_cons]
    by_cases h : n = 0
    · subst h
      rw [List.filterMap_cons_none rfl, bndV_map r]
      rfl
    · rw [List.filterMap_cons_some (bndV_ne h), bndV_map r, List.filter_cons_of_pos (by simpa using h)]
      rfl
section
variable {X : Cx}
def rIsT (K : PySem.W.Frag) : List V → Hp → VK → Prop := fun xs H Q => ∃ p ys, xs = [.ref p, .ty "tuple"] ∧ SqT K H p ys ∧ Q (.bl true) H
theorem call_isT : CallR X (.builtin "isinstance") (rIsT X.K) := by
  intro pins s σ H xs us Q I r h
  obtain ⟨p, ys, rfl, hq, q⟩ := h
  obtain ⟨u, w', rfl, ru, rw'⟩ := vals2 r
  cases (show u = Value.ref p from ru)
  cases (show w' = Value.type "tuple" from rw')
  obtain ⟨its, r', pl, hz⟩ := I.tuple hq
  obtain ⟨o, h1, h2, _⟩ := pl
  exact PySem.W.kia_one PySem.W.kitx_tuple I.kIn ⟨o, h1, h2⟩ (kit_same _) (fun z => nomatch z) fun tk => ⟨.bl true, H, I.tok _, rfl, q⟩
end
section
variable {K : PySem.W.Frag} {H : Hp} {Q : VK}
theorem w_ixT {p : Addr} {i : Int} : rIxT K (.ref p) (.int i) H Q = ∃ xs, SqT K H p xs ∧ ∃ v, atI xs i = some v ∧ Q v H :=
  propext ⟨fun ⟨p', xs, i', v, e1, e2, h, a, q⟩ => by cases e1; cases e2; exact ⟨xs, h, v, a, q⟩, fun ⟨xs, h, v, a, q⟩ => ⟨p, xs, i, v, rfl, rfl, h, a, q⟩⟩
theorem w_eqS {x y : Str} : rEq (.str x) (.str y) H Q = Q (.bl (decide (x = y))) H :=
  propext (by
    have e : decide (V.str x = V.str y) = decide (x = y) := by by_cases h : x = y <;> simp [h]
    unfold rEq
    rw [e]
    exact ⟨fun h => h.2, fun h => ⟨rfl, h⟩⟩)
end
end L2
set_option Elab.async false
set_option linter.all false
set_option maxRecDepth 100000
set_option maxHeartbeats 1000000
namespace L2
open PySem PySem.Spec PyProof.Rows
theorem Inv.turnedL {X : Cx} {pins : List (Addr × Obj)} {σ : St} {H : Hp} {s : Shared} {h' : Heap} {t' : Nat} (ch : List Addr) (I : Inv X pins σ H s) (k : ∀ b o, b ∉ ch → s.heap.get? b = some o → h'.get? b = some o) (hf : ∀ b ∈ ch, FpOk X pins H b) : Inv X pins σ H { s with heap := h', toks := t' } := by
  have nit : ∀ b u, H b = some u → b ∉ ch := fun b u e z => by rw [(hf b z).1] at e; cases e
  refine I.step (g' := s.gens) (d' := s.drawn) (ch := ch) (fun b hb => ?_) (fun b o _ _ hc e _ => k b o hc e) (fun b o _ _ hc e _ => ⟨o.slots, k b o hc e⟩) (fun _ _ _ _ n => n)
    (fun b o hc e => ⟨o, k b o hc e⟩) (fun _ _ e => e) (fun _ _ _ e => e) (fun b ps e => ⟨#[], by rw [e]; simp⟩) (fun m hm => ?_) (fun b u e => ?_) I.bare
  · obtain ⟨f0, f1, f2, f3, f4, f5⟩ := hf b hb
    exact ⟨f3, f1, f4, f5⟩
  · obtain ⟨o, es, ep, ho, r⟩ := hm
    exact ⟨o, es, ep, k _ o (fun z => (hf _ z).2.1 rfl) ho, r⟩
  · refine (I.hok b u e).stay (fun c v hc q => k c v ?_ q) (fun _ q => q) fun _ _ q => q
    rcases hc with z | z
    · rw [z]; exact nit b u e
    · exact nit c _ z
theorem get_push_ne {h : Heap} {b : Addr} {o o' : Obj} (n : b ≠ h.objs.size) (e : (h.push o').get? b = some o) : h.get? b = some o := by
  rw [Heap.get?_push_ne h b o' n] at e
  exact e
def Itz (K : PySem.W.Frag) (a b : Addr) : It :=
  ⟨fun i H => ∃ xs ys, SqL K H a xs ∧ SqL K H b ys ∧ i < xs.length ∧ i < ys.length,
   fun i H x H' => ∃ T u v, x = .ref T ∧ H T = none ∧ H' = upd H T (.tup [u, v]) ∧ (∀ xs, SqL K H a xs → xs[i]? = some u) ∧ (∀ ys, SqL K H b ys → ys[i]? = some v),
   fun i H => ∃ xs ys, SqL K H a xs ∧ SqL K H b ys ∧ (xs.length ≤ i ∨ ys.length ≤ i)⟩
def iZip (K : PySem.W.Frag) (ta : TA) : TI := fun σ H R => ta σ H fun vs H1 => ∃ a b xs ys, vs = [.ref a, .ref b] ∧ SqL K H1 a xs ∧ SqL K H1 b ys ∧ R (Itz K a b) H1
end L2
set_option Elab.async false
set_option linter.all false
set_option maxRecDepth 100000
set_option maxHeartbeats 1000000
namespace L2
open PySem PySem.Spec PyProof.Rows
theorem bo_enumerate : bootBuiltins "enumerate" = some (.type "enumerate") := by decide +kernel
def Ite (K : PySem.W.Frag) (a : Addr) : It :=
  ⟨fun i H => ∃ xs, SqL K H a xs ∧ i < xs.length,
   fun i H x H' => ∃ T u, x = .ref T ∧ H T = none ∧ H' = upd H T (.tup [.int (i : Int), u]) ∧ (∀ xs, SqL K H a xs → xs[i]? = some u),
   fun i H => ∃ xs, SqL K H a xs ∧ xs.length ≤ i⟩
theorem turn_enum {P : Program} {w : World} {K : PySem.W.Frag} {elts : List Expr} {x1 : Nat} {pos : Pos} {e it a : Addr} (hne : e ≠ it) : Turn P w K (.Tuple elts x1 pos) (Ite K a) [e, it] e (fun i h => (∃ old, IsEnum h e it (i : Int) old) ∧ h.IsListIter it a i) where
  mem := by simp
  obj := fun i h st c hc => by
    obtain ⟨⟨old, t1⟩, ⟨o2, e2, c2, d2⟩⟩ := st
    simp only [List.mem_cons, List.not_mem_nil, or_false] at hc
    rcases hc with z | z <;> subst z
    · exact ⟨_, t1, fun v q => by cases q⟩
    · exact ⟨o2, e2, fun v q => by rw [d2] at q; cases q⟩
  keep := fun i h h' st k => by
    obtain ⟨⟨old, t1⟩, t2⟩ := st
    exact ⟨⟨old, k e (by simp) _ t1⟩, t2.at fun o z => k it (by simp) o z⟩
  item := by
    intro X hP hw hK hc i pins s σ H E I hf st hg
    subst hP hw hK
    obtain ⟨xs, hq, hi⟩ := hg
    obtain ⟨its, rv, p, hz⟩ := I.list hq
    obtain ⟨u, hu, ru⟩ := rv.get (List.getElem?_eq_getElem hi)
    obtain ⟨⟨old, t1⟩, t2⟩ := st
    have hl1 : e < s.heap.objs.size := Heap.lt_size t1
    have hl2 : it < s.heap.objs.size := by obtain ⟨o, z, _⟩ := t2; exact Heap.lt_size z
    refine wpAny_pyNext_enum_item t1 t2 p.isList (x := u) (by simpa using hu) hne fun h' a1 a2 a3 a4 a5 => ⟨_, rfl, ?_⟩
    refine wpAny_letOwnedTupleGo_enum (s := { s with heap := h', toks := s.toks + 1 }) a1 fun h2 b1 b2 => ?_
    have hT0 : H s.heap.objs.size = none := I.hok.fresh (Nat.le_refl _)
    have I1 : Inv X pins σ (upd H s.heap.objs.size (.tup [.int (i : Int), xs[i]])) { s with heap := s.heap.push { cls := .type "tuple", data := .seq [Value.int (i : Int) s.toks, u].toArray } } :=
      I.laid (t' := s.toks) (fun b o z => Heap.get?_push_of_some _ z) (Nat.le_refl _) (show ObjOk X.prog X.w _ _ _ (.tup [.int (i : Int), xs[i]]) from ⟨le_size (by show 2 ≤ 1000; decide), [Value.int (i : Int) s.toks, u], .cons ⟨_, rfl⟩ (.cons ru .nil), IsTup.new _ _⟩)
    have fpk : ∀ c ∈ [e, it], c ≠ s.heap.objs.size := fun c hc => by
      simp only [List.mem_cons, List.not_mem_nil, or_false] at hc
      rcases hc with z | z <;> subst z <;> exact Nat.ne_of_lt (by assumption)
    have fp2 : ∀ c ∈ [e, it], FpOk X pins (upd H s.heap.objs.size (.tup [.int (i : Int), xs[i]])) c := fun c hc => by
      obtain ⟨f0, f⟩ := hf c hc
      exact ⟨by rw [upd_ne (fpk c hc)]; exact f0, f⟩
    have I2 : Inv X pins σ (upd H s.heap.objs.size (.tup [.int (i : Int), xs[i]])) { s with heap := h2, toks := s.toks + 1 } := by
      refine Inv.turnedL (s := { s with heap := s.heap.push { cls := .type "tuple", data := .seq [Value.int (i : Int) s.toks, u].toArray } }) (t' := s.toks + 1) (h' := h2) [e, it] I1 (fun b o hb z => ?_) fp2
      simp only [List.mem_cons, List.not_mem_nil, or_false, not_or] at hb
      obtain ⟨n1, n2⟩ := hb
      refine (b2.2 b n1).trans ?_
      by_cases hT : b = s.heap.objs.size
      · subst hT
        rw [Heap.get?_push_size _ rfl] at z
        rw [← z]
        exact a3
      · exact a5 b o n1 n2 (get_push_ne hT z)
    have e1 : ((i : Int) + 1) = ((i + 1 : Nat) : Int) := by omega
    rw [e1] at b1
    refine ⟨.ref s.heap.objs.size, _, I2, rfl, ⟨_, xs[i], rfl, hT0, rfl, fun zs h => ?_⟩, ⟨⟨_, b1⟩, a2.at fun o z => (b2.2 _ hne.symm).trans z⟩, fun c hc => (fp2 c hc).1⟩
    rw [I.list_inj h hq]; exact List.getElem?_eq_getElem hi
  done := by
    intro X hP hw hK hc i pins s σ H E I hf st hg
    subst hP hw hK
    obtain ⟨xs, hq, hend⟩ := hg
    obtain ⟨its, rv, p, hz⟩ := I.list hq
    obtain ⟨⟨old, t1⟩, t2⟩ := st
    refine wpAny_pyNext_enum_end (I.ok.hd hc) t1 t2 p.isList (by simp [← rv.length, hend]) fun h' a7 => ⟨rfl, ?_⟩
    refine Inv.turnedL (t' := s.toks) (h' := h') [it] I (fun b o hb z => a7 b o (by simpa using hb) z) (fun c hc => hf c (by simp only [List.mem_cons, List.not_mem_nil, or_false] at hc ⊢; exact .inr hc))
  self := fun _ i s _ _ st h => by
    obtain ⟨⟨old, t1⟩, t2⟩ := st
    exact wpAny_pyIter_enum t1 h
def iEnum (K : PySem.W.Frag) (ta : TA) : TI := fun σ H R => ta σ H fun vs H1 => ∃ a xs, vs = [.ref a] ∧ SqL K H1 a xs ∧ R (Ite K a) H1
theorem pi_enum {X : Cx} {elts : List Expr} {x1 : Nat} {tpos : Pos} {a : Expr} {ta : TA} {p pos : Pos} (hg : Gl X "enumerate") (hm : X.mg "enumerate" = none) (ha : PA X [a] ta) (hs : starEach [a] X.env = [(false, eval a X.env)] := by rfl) :
    PI X (.Tuple elts x1 tpos) (.Call (.Name "enumerate" p) [a] [] pos) (iEnum X.K ta) := by
  intro pins s σ H R I h
  refine Call_ (ld_blt I hg hm bo_enumerate (PyProof.Rows.callWith_type1 (thn (ha pos pins s σ H _ I h) fun us s1 ⟨vs, H1, I1, r1, q1⟩ => ?_) hs rfl))
  obtain ⟨l1, xs, e, hq, q⟩ := q1
  subst e
  obtain ⟨u1, rfl, ru1⟩ := vals1 r1
  cases (show u1 = Value.ref l1 from ru1)
  obtain ⟨its, rv, pl, hz⟩ := I1.list hq
  refine call_enumerate_list pl.isList fun h' z1 z2 z3 z4 => ?_
  have I2 : Inv X pins σ H1 { s1 with heap := h' } := I1.kept (t' := s1.toks) z4
  refine wpAny_pyIter_enum z1 ?_
  refine ⟨s1.heap.objs.size + 1, _, _, _, H1, rfl, I2, turn_enum (by show ¬ @Eq Nat _ _; omega), ⟨⟨_, z1⟩, z2⟩, fun c hc => ?_, q⟩
  have hle : s1.heap.objs.size ≤ c := by
    simp only [List.mem_cons, List.not_mem_nil, or_false] at hc
    rcases hc with z | z <;> subst z <;> (show @LE.le Nat _ _ _; omega)
  exact I1.fpOk hle (I1.hok.fresh hle)
section
variable {K : PySem.W.Frag} {σ : St} {H : Hp} {Q : VK}
theorem comp_any {J : It} {nt : Nat} {cs : List Nat} {g : TG} {tt : TT} {te : TE} (n : Nat) (Pv : Addr → Nat → List V → Hp → Prop) (hz : n ≤ sizeLine)
    (hgo : ∀ acc i ys H', i < n → Pv acc i ys H' → J.go i H') (hst : ∀ acc ys H', Pv acc n ys H' → J.stop n H')
    (h0 : ∀ acc, H acc = none → Pv acc 0 [] (upd H acc (.lst []))) (hacc : ∀ acc i ys H', Pv acc i ys H' → H' acc = some (.lst ys) ∧ ys.length ≤ i)
    (hs : ∀ acc i ys H' (ts : St) x H2 (N : List V → St → Hp → Prop), H acc = none → i < n → Pv acc i ys H' → J.yld i H' x H2 → ts.length = nt → (∀ zs (ts' : St) H3, ts'.length = nt → Pv acc (i + 1) zs H3 → N zs (ts' ++ capV cs σ) H3) →
      g x (ts ++ capV cs σ) H2 fun σ3 H3 => tt σ3 H3 fun b H4 => if b = true then te σ3 H4 fun y H5 => H5 acc = some (.lst ys) ∧ N (ys ++ [y]) σ3 (upd H5 acc (.lst (ys ++ [y]))) else N ys σ3 H4)
    (hd : ∀ acc ys H', H acc = none → Pv acc n ys H' → Q (.ref acc) H') : CompIt J nt cs g tt te σ H Q := by
  intro acc hn
  refine ⟨fun i m ys σ' H' => m = n - i ∧ i ≤ n ∧ (∃ ts : St, ts.length = nt ∧ σ' = ts ++ capV cs σ) ∧ Pv acc i ys H', ⟨_, rfl, Nat.zero_le _, ⟨List.replicate nt none, List.length_replicate, rfl⟩, h0 acc hn⟩, ?_⟩
  rintro i m ys σ' H' ⟨rfl, hi, ⟨ts, hts, rfl⟩, p⟩
  obtain ⟨ha, hl⟩ := hacc acc i ys H' p
  refine ⟨ha, ?_⟩
  by_cases hlt : i < n
  · refine .inr ⟨hgo acc i ys H' hlt p, by omega, fun zs σ2 H2 => (∃ ts : St, ts.length = nt ∧ σ2 = ts ++ capV cs σ) ∧ Pv acc (i + 1) zs H2, fun zs σ2 H2 ⟨q1, q2⟩ => ⟨n - (i + 1), by omega, rfl, hlt, q1, q2⟩, fun x H2 y => ?_⟩
    exact hs acc i ys H' ts x H2 (fun zs σ2 H2 => (∃ ts : St, ts.length = nt ∧ σ2 = ts ++ capV cs σ) ∧ Pv acc (i + 1) zs H2) hn hlt p y hts fun zs ts' H3 h1 h2 => ⟨⟨ts', h1, rfl⟩, h2⟩
  · have e : i = n := by omega
    subst e
    exact .inl ⟨hst acc ys H' p, hd acc ys H' hn p⟩
theorem w_compE {ta : TA} {nt : Nat} {cs : List Nat} {g : TG} {tt : TT} {te : TE} : tComp (iEnum K ta) nt cs g tt te σ H Q = (ta σ H fun vs H1 => ∃ a xs, vs = [.ref a] ∧ SqL K H1 a xs ∧ CompIt (Ite K a) nt cs g tt te σ H1 Q) := rfl
theorem w_compZ {ta : TA} {nt : Nat} {cs : List Nat} {g : TG} {tt : TT} {te : TE} : tComp (iZip K ta) nt cs g tt te σ H Q = (ta σ H fun vs H1 => ∃ a b xs ys, vs = [.ref a, .ref b] ∧ SqL K H1 a xs ∧ SqL K H1 b ys ∧ CompIt (Itz K a b) nt cs g tt te σ H1 Q) := rfl
end
def Itr3 (lo c : Int) (n : Nat) : It := ⟨fun i _ => i < n, fun i H x H' => H' = H ∧ x = .int (lo + i * c), fun i _ => n ≤ i⟩
theorem turn_range3 {P : Program} {w : World} {K : PySem.W.Frag} {tg : Expr} (it : Addr) (lo c : Int) (n : Nat) : Turn P w K tg (Itr3 lo c n) [it] it (fun i h => IsRangeIter h it (lo + (i : Nat) * c) ((n : Int) - (i : Nat)) c) where
  mem := by simp
  obj := fun i h st b hb => by
    have e : b = it := by simpa using hb
    subst e
    exact ⟨_, st, fun v z => by
      have z' : Data.fields _ = Data.cell v := z
      cases z'⟩
  keep := fun i h h' st k => k it (by simp) _ st
  item := by
    intro X hP hw hK hc i pins s σ H E I hf st hg
    subst hP hw hK
    obtain ⟨f0, f1, f2, f3, f4, f5⟩ := hf it (by simp)
    have W := Walks.range (prog := X.prog) (w := X.w) (I.ok.hd hc) it lo c n
    refine W.item i s _ _ hg st fun v h' tk hv st' kk => ?_
    obtain ⟨t, rfl⟩ := hv
    have I1 : Inv X pins σ H { s with heap := h', toks := tk } := I.turned (fun b o hb e => kk b o (by simpa using hb) e) f0 f1 f3 f4 f5
    exact ⟨_, rfl, go_of (s := { s with heap := h', toks := tk }) (n := "range_iterator") st' rfl rfl (by decide) ⟨.int (lo + i * c), H, I1, ⟨t, rfl⟩, ⟨rfl, rfl⟩, st', fun b hb => (hf b hb).1⟩⟩
  done := by
    intro X hP hw hK hc i pins s σ H E I hf st hg
    subst hP hw hK
    obtain ⟨f0, f1, f2, f3, f4, f5⟩ := hf it (by simp)
    exact wpAny_pyNext_range_end (I.ok.hd hc) st (by have : n ≤ i := hg; omega) fun h' eb => ⟨rfl, I.turned (t' := s.toks) (fun b o hb e => eb b o hb e) f0 f1 f3 f4 f5⟩
  self := fun _ _ _ _ _ st h => wpAny_pyIter_rangeiter st h
def stepN (lo hi c : Int) : Nat := (Builtin.Range.rangeSize lo hi c).toNat
def iRng3 (ta : TA) : TI := fun σ H R => ta σ H fun vs H1 => ∃ i j c : Int, vs = [.int i, .int j, .int c] ∧ (0 ≤ i ∧ i < 2 ^ 31 ∧ -1 ≤ j ∧ j < 2 ^ 31 ∧ c = 2) ∧ R (Itr3 i c (stepN i j c)) H1
theorem small_two {a b : Int} (h : 0 ≤ a ∧ a < 2 ^ 31 ∧ -1 ≤ b ∧ b < 2 ^ 31) : Builtin.Range.small a b 2 = true := by
  unfold Builtin.Range.small
  simp only [Builtin.Range.rangeSize, Builtin.Range.rangeFitsLong, Bool.and_eq_true, Bool.or_eq_true, decide_eq_true_eq, beq_iff_eq, show (2 : Int) > 0 by decide, if_true]
  split <;> omega
theorem stepN_two {a b : Int} : ((stepN a b 2 : Nat) : Int) = Builtin.Range.rangeSize a b 2 := by
  unfold stepN
  have : 0 ≤ Builtin.Range.rangeSize a b 2 := by
    unfold Builtin.Range.rangeSize
    rw [if_pos (by decide)]
    split <;> omega
  omega
theorem stepN_val {n : Nat} : stepN 0 ((n : Int) - 1) 2 = n / 2 := by
  unfold stepN Builtin.Range.rangeSize
  rw [if_pos (by decide)]
  split <;> omega
theorem pi_range3 {X : Cx} {tg : Expr} {a b c : Expr} {ta : TA} {p pos : Pos} (hg : Gl X "range") (hm : X.mg "range" = none) (ha : PA X [a, b, c] ta) (hs : starEach [a, b, c] X.env = (false, eval a X.env) :: starEach [b, c] X.env := by rfl) (hpl : (backTo pos (starEach [b, c] X.env)).any (·.1) = false := by rfl) :
    PI X tg (.Call (.Name "range" p) [a, b, c] [] pos) (iRng3 ta) := by
  intro pins s σ H R I h
  refine Call_ (ld_blt I hg hm boot_range (PyProof.Rows.callWith_type1 (thn (ha pos pins s σ H _ I h) fun us s1 ⟨vs, H1, I1, r1, q1⟩ => ?_) hs hpl))
  obtain ⟨i, j, c, e, ⟨q1, q2, q3, q4, rfl⟩, q⟩ := q1
  subst e
  cases r1 with
  | cons r rr =>
    cases rr with
    | cons r' rr =>
      cases rr with
      | cons r3 rr =>
        cases rr
        obtain ⟨t, rfl⟩ := r
        obtain ⟨t', rfl⟩ := r'
        obtain ⟨t3, rfl⟩ := r3
        refine call_range_3 (by decide) ?_ (Or.inl (PyProof.noPylong_of_log2 (by decide +kernel)))
        refine wpAny_pyIter_range (IsRange.new ..) (small_two ⟨q1, q2, q3, q4⟩) ?_
        have I2 : Inv X pins σ H1 { s1 with heap := s1.heap.push { cls := .type "range", data := .fields #[.int i t, .int j t', .int 2 t3] }, toks := s1.toks } := I1.kept fun b o e => Heap.get?_push_of_some _ e
        refine ⟨(s1.heap.push { cls := .type "range", data := .fields #[.int i t, .int j t', .int 2 t3] }).objs.size, [(s1.heap.push { cls := .type "range", data := .fields #[.int i t, .int j t', .int 2 t3] }).objs.size], _, _, H1, rfl, I2.kept (t' := s1.toks) fun b o e => Heap.get?_push_of_some _ e, turn_range3 _ i 2 (stepN i j 2), ?_, fun b hb => ?_, q⟩
        · have e1 : i + ((0 : Nat) : Int) * 2 = i := by omega
          have e2 : ((stepN i j 2 : Nat) : Int) - ((0 : Nat) : Int) = Builtin.Range.rangeSize i j 2 := by rw [stepN_two]; omega
          show IsRangeIter _ _ (i + ((0 : Nat) : Int) * 2) (((stepN i j 2 : Nat) : Int) - ((0 : Nat) : Int)) 2
          rw [e1, e2]
          exact Heap.get?_push_size _ rfl
        · have e : b = (s1.heap.push { cls := .type "range", data := .fields #[.int i t, .int j t', .int 2 t3] }).objs.size := by simpa using hb
          subst e
          exact I2.fpOk (Nat.le_refl _) (I2.hok.fresh (Nat.le_refl _))
def ForR3 (lo c : Int) (n : Nat) (g : TG) (tb : TS) (D : Ends) (σ : St) (H : Hp) : Prop := ∃ W : Nat → Nat → St → Hp → Prop, (∃ m, W 0 m σ H) ∧ ∀ i m σ H, W i m σ H →
  ((Itr3 lo c n).stop i H ∧ D.nx σ H) ∨ ((Itr3 lo c n).go i H ∧ ∃ N : St → Hp → Prop, (∀ σ' H', N σ' H' → ∃ m', m' < m ∧ W (i + 1) m' σ' H') ∧ ∀ x H', (Itr3 lo c n).yld i H x H' → g x σ H' fun σ2 H2 => tb { D with nx := N, ct := N, bk := D.nx } σ2 H2)
section
variable {σ : St} {H : Hp} {D : Ends} {g : TG} {tb : TS} {lo c : Int} {n : Nat}
theorem w_for3 {ta : TA} : tFor (iRng3 ta) g tb D σ H = (ta σ H fun vs H1 => ∃ i j c : Int, vs = [.int i, .int j, .int c] ∧ (0 ≤ i ∧ i < 2 ^ 31 ∧ -1 ≤ j ∧ j < 2 ^ 31 ∧ c = 2) ∧ ForR3 i c (stepN i j c) g tb D σ H1) := rfl
theorem forR3 (Pv : Nat → St → Hp → Prop) (h0 : Pv 0 σ H) (hs : ∀ i σ H (N : St → Hp → Prop), i < n → Pv i σ H → (∀ σ' H', Pv (i + 1) σ' H' → N σ' H') → g (.int (lo + i * c)) σ H fun σ2 H2 => tb { D with nx := N, ct := N, bk := D.nx } σ2 H2)
    (hd : ∀ σ H, Pv n σ H → D.nx σ H) : ForR3 lo c n g tb D σ H := by
  refine ⟨fun i m σ H => m = n - i ∧ i ≤ n ∧ Pv i σ H, ⟨n, by simp, Nat.zero_le _, h0⟩, ?_⟩
  rintro i m σ H ⟨rfl, hi, p⟩
  by_cases hlt : i < n
  · refine .inr ⟨hlt, Pv (i + 1), fun σ' H' p' => ⟨n - (i + 1), by omega, rfl, hlt, p'⟩, fun x H' y => ?_⟩
    obtain ⟨e, rfl⟩ := y
    subst e
    exact hs i σ _ (Pv (i + 1)) hlt p fun _ _ z => z
  · have e : i = n := by omega
    subst e
    exact .inl ⟨Nat.le_refl _, hd σ H p⟩
end
end L2
set_option Elab.async false
set_option linter.all false
set_option maxRecDepth 100000
set_option maxHeartbeats 1000000
namespace L2
open PySem PySem.Spec
structure Pt where
  th : Nat
  sh : Nat
  g : Int
def pval (ns : List Int) (p : Pt) : Int := p.g * (ns.getD p.th 0 * 2 ^ p.sh)
def pvs (ns : List Int) (ps : List Pt) : Int := (ps.map (pval ns)).sum
theorem pvs_app (ns : List Int) (a b : List Pt) : pvs ns (a ++ b) = pvs ns a + pvs ns b := by unfold pvs; rw [List.map_append, List.sum_append]
theorem pvs_one (ns : List Int) (p : Pt) : pvs ns [p] = pval ns p := by unfold pvs; rw [List.map_cons, List.map_nil, List.sum_cons, List.sum_nil, Int.add_zero]
def dpt (ds : List Dd) : List Nat := ds.foldl (fun ps d => ps ++ [1 + max (ps.getD d.a 0) (ps.getD d.b 0)]) [0]
theorem dpt_snoc (ds : List Dd) (d : Dd) : dpt (ds ++ [d]) = dpt ds ++ [1 + max ((dpt ds).getD d.a 0) ((dpt ds).getD d.b 0)] := by unfold dpt; rw [List.foldl_append]; rfl
theorem dpt_len (ds : List Dd) : (dpt ds).length = ds.length + 1 := by
  refine snoc_ind (p := fun ds => (dpt ds).length = ds.length + 1) rfl (fun xs x h => ?_) ds
  rw [dpt_snoc, List.length_append, List.length_append, h]
  rfl
theorem dpt_pre (ds new : List Dd) {k : Nat} {n : Nat} (h : (dpt ds)[k]? = some n) : (dpt (ds ++ new))[k]? = some n := by
  refine snoc_ind (p := fun new => (dpt (ds ++ new))[k]? = some n) (by rw [List.append_nil]; exact h) (fun xs x ih => ?_) new
  rw [← List.append_assoc, dpt_snoc, List.getElem?_append_left (List.getElem?_eq_some_iff.mp ih).1]
  exact ih
theorem deed_val {ns : List Int} {a s b t : Nat} {g h : Int} (hg : g = 1 ∨ g = -1) (hh : h = 1 ∨ h = -1) : signOf g h * dnum ns (deedOf a s g b t h) = g * (ns.getD a 0 * 2 ^ s) + h * (ns.getD b 0 * 2 ^ t) := by
  rcases hg with e | e <;> rcases hh with e2 | e2 <;> subst e <;> subst e2
  · show 1 * (ns.getD a 0 * 2 ^ s + 1 * (ns.getD b 0 * 2 ^ t)) = _
    omega
  · show 1 * (ns.getD a 0 * 2 ^ s + -1 * (ns.getD b 0 * 2 ^ t)) = _
    omega
  · show 1 * (ns.getD b 0 * 2 ^ t + -1 * (ns.getD a 0 * 2 ^ s)) = _
    omega
  · show -1 * (ns.getD a 0 * 2 ^ s + 1 * (ns.getD b 0 * 2 ^ t)) = _
    omega
theorem signOf_pm {g h : Int} (hg : g = 1 ∨ g = -1) : signOf g h = 1 ∨ signOf g h = -1 := by
  unfold signOf
  split
  · exact hg
  · exact .inl rfl
theorem signOf_one {g : Int} (hg : g = 1 ∨ g = -1) : signOf g 1 = 1 := by rcases hg with e | e <;> subst e <;> rfl
theorem deed_parts (a s b t : Nat) (g h : Int) : (deedOf a s g b t h).g = 1 ∨ (deedOf a s g b t h).g = -1 := by
  unfold deedOf
  split
  · exact .inl rfl
  · split <;> exact .inr rfl
theorem deed_ab (a s b t : Nat) (g h : Int) : ((deedOf a s g b t h).a = a ∧ (deedOf a s g b t h).b = b ∧ (deedOf a s g b t h).s = s ∧ (deedOf a s g b t h).t = t) ∨ ((deedOf a s g b t h).a = b ∧ (deedOf a s g b t h).b = a ∧ (deedOf a s g b t h).s = t ∧ (deedOf a s g b t h).t = s) := by
  unfold deedOf
  split
  · exact .inl ⟨rfl, rfl, rfl, rfl⟩
  · split
    · exact .inl ⟨rfl, rfl, rfl, rfl⟩
    · exact .inr ⟨rfl, rfl, rfl, rfl⟩
def PtOk (ds : List Dd) (j : Nat) (p : Pt) : Prop := (p.g = 1 ∨ p.g = -1) ∧ p.sh ≤ 200 ∧ ∃ (n : Int) (e : Nat), (ev ds)[p.th]? = some n ∧ (dpt ds)[p.th]? = some e ∧ e ≤ j ∧ n.natAbs * 2 ^ p.sh ≤ 2 ^ (201 + j)
theorem PtOk.pre {ds new : List Dd} {j k : Nat} {p : Pt} (h : PtOk ds j p) (hk : j ≤ k) : PtOk (ds ++ new) k p := by
  obtain ⟨h1, h2, n, e, h3, h4, h5, h6⟩ := h
  exact ⟨h1, h2, n, e, ev_pre ds new h3, dpt_pre ds new h4, by omega, Nat.le_trans h6 (Nat.pow_le_pow_right (by decide) (by omega))⟩
theorem pval_pre {ds new : List Dd} {j : Nat} {p : Pt} (h : PtOk ds j p) : pval (ev (ds ++ new)) p = pval (ev ds) p := by
  obtain ⟨h1, h2, n, e, h3, h4, h5, h6⟩ := h
  unfold pval
  rw [List.getD_eq_getElem?_getD, List.getD_eq_getElem?_getD, h3, ev_pre ds new h3]
theorem pvs_pre {ds new : List Dd} {j : Nat} : ∀ {ps : List Pt}, (∀ p ∈ ps, PtOk ds j p) → pvs (ev (ds ++ new)) ps = pvs (ev ds) ps
  | [], _ => rfl
  | p :: r, h => by
    have e1 := pval_pre (new := new) (h p List.mem_cons_self)
    have e2 := pvs_pre (new := new) (ps := r) fun q hq => h q (List.mem_cons_of_mem _ hq)
    show (pval _ p :: _).sum = (pval _ p :: _).sum
    unfold pvs at e2
    rw [List.sum_cons, List.sum_cons, e1]
    exact congrArg _ e2
structure PsOk (ds : List Dd) (j : Nat) (ps : List Pt) : Prop where
  all : ∀ p ∈ ps, PtOk ds j p
  up : ∀ i p q, ps[i]? = some p → ps[i + 1]? = some q → p.sh ≤ q.sh
  fst : ∀ p, ps[0]? = some p → (dpt ds)[p.th]? = some j
  lst : ∀ p, ps.getLast? = some p → p.g = 1
structure PrI (ds : List Dd) (j : Nat) (ps : List Pt) (k : Nat) (new : List Dd) (qs : List Pt) : Prop where
  ok : DOk (ds ++ new)
  nl : new.length = k
  ql : qs.length = k
  val : pvs (ev (ds ++ new)) qs = pvs (ev ds) (ps.take (2 * k))
  all : ∀ q ∈ qs, PtOk (ds ++ new) (j + 1) q
  shs : ∀ (i : Nat) (q : Pt), qs[i]? = some q → ∃ p, ps[2 * i]? = some p ∧ q.sh = p.sh
  fst : ∀ q, qs[0]? = some q → (dpt (ds ++ new))[q.th]? = some (j + 1)
  lst : ∀ (i : Nat) (q p : Pt), qs[i]? = some q → ps[2 * i + 1]? = some p → p.g = 1 → q.g = 1
theorem pri_zero {ds : List Dd} {j : Nat} {ps : List Pt} (h : DOk ds) : PrI ds j ps 0 [] [] := by
  refine ⟨by rw [List.append_nil]; exact h, rfl, rfl, rfl, by simp, fun i q h => by simp at h, fun q h => by simp at h, fun i q p h => by simp at h⟩
theorem get_snoc {α : Type} {xs : List α} {x y : α} {i : Nat} (h : (xs ++ [x])[i]? = some y) : (i < xs.length ∧ xs[i]? = some y) ∨ (i = xs.length ∧ y = x) := by
  by_cases hi : i < xs.length
  · rw [List.getElem?_append_left hi] at h
    exact .inl ⟨hi, h⟩
  · rw [List.getElem?_append_right (by omega)] at h
    have hz : i - xs.length = 0 := by
      cases hk : i - xs.length with
      | zero => rfl
      | succ m => rw [hk] at h; simp at h
    rw [hz] at h
    cases h
    exact .inr ⟨by omega, rfl⟩
theorem abs_le_of {a b : Int} {m n : Nat} {g h : Int} (hg : g = 1 ∨ g = -1) (hh : h = 1 ∨ h = -1) (ha : a.natAbs ≤ m) (hb : b.natAbs ≤ n) : (g * a + h * b).natAbs ≤ m + n := by
  rcases hg with e | e <;> rcases hh with e2 | e2 <;> subst e <;> subst e2 <;> omega
theorem pri_step {ds : List Dd} {j k : Nat} {ps : List Pt} {new : List Dd} {qs : List Pt} {p q : Pt} (hp : PsOk ds j ps) (hj : j ≤ 20) (I : PrI ds j ps k new qs) (h1 : ps[2 * k]? = some p) (h2 : ps[2 * k + 1]? = some q) :
    PrI ds j ps (k + 1) (new ++ [deedOf p.th 0 p.g q.th (q.sh - p.sh) q.g]) (qs ++ [⟨(ds ++ new).length + 1, p.sh, signOf p.g q.g⟩]) := by
  have hpo := hp.all p (List.mem_of_getElem? h1)
  have hqo := hp.all q (List.mem_of_getElem? h2)
  have hup := hp.up _ p q h1 h2
  obtain ⟨pg, ps2, n, e, pn, pe, pj, pb⟩ := hpo.pre (new := new) (Nat.le_refl _)
  obtain ⟨qg, qs2, n', e', qn, qe, qj, qb⟩ := hqo.pre (new := new) (Nat.le_refl _)
  have pl : p.th < (ds ++ new).length + 1 := by
    have := (List.getElem?_eq_some_iff.mp pn).1
    rwa [ev_len] at this
  have ql : q.th < (ds ++ new).length + 1 := by
    have := (List.getElem?_eq_some_iff.mp qn).1
    rwa [ev_len] at this
  generalize hd : deedOf p.th 0 p.g q.th (q.sh - p.sh) q.g = d
  have dv := deed_val (ns := ev (ds ++ new)) (a := p.th) (s := 0) (b := q.th) (t := q.sh - p.sh) pg qg
  rw [hd] at dv
  have gp : (ev (ds ++ new)).getD p.th 0 = n := by rw [List.getD_eq_getElem?_getD, pn]; rfl
  have gq : (ev (ds ++ new)).getD q.th 0 = n' := by rw [List.getD_eq_getElem?_getD, qn]; rfl
  rw [gp, gq, Int.pow_zero, Int.mul_one] at dv
  have hpow : (2 : Int) ^ (q.sh - p.sh) * 2 ^ p.sh = 2 ^ q.sh := by rw [← Int.pow_add, Nat.sub_add_cancel hup]
  have hpn : (2 : Nat) ^ (q.sh - p.sh) * 2 ^ p.sh = 2 ^ q.sh := by rw [← Nat.pow_add, Nat.sub_add_cancel hup]
  have sg := signOf_pm (h := q.g) pg
  have val2 : signOf p.g q.g * (dnum (ev (ds ++ new)) d * 2 ^ p.sh) = p.g * (n * 2 ^ p.sh) + q.g * (n' * 2 ^ q.sh) := by
    rw [← Int.mul_assoc, dv, Int.add_mul, ← hpow, Int.mul_assoc, Int.mul_assoc, Int.mul_assoc]
  have hbd : (dnum (ev (ds ++ new)) d).natAbs * 2 ^ p.sh ≤ 2 ^ (201 + (j + 1)) := by
    have e1 : (signOf p.g q.g * (dnum (ev (ds ++ new)) d * 2 ^ p.sh)).natAbs = (dnum (ev (ds ++ new)) d).natAbs * 2 ^ p.sh := by
      rw [Int.natAbs_mul, Int.natAbs_mul, Int.natAbs_pow]
      rcases sg with z | z <;> rw [z] <;> simp
    rw [← e1, val2]
    have h3 := abs_le_of (a := n * 2 ^ p.sh) (b := n' * 2 ^ q.sh) (m := 2 ^ (201 + j)) (n := 2 ^ (201 + j)) pg qg (by rw [Int.natAbs_mul, Int.natAbs_pow]; exact pb) (by rw [Int.natAbs_mul, Int.natAbs_pow]; exact qb)
    have h4 : (2 : Nat) ^ (201 + (j + 1)) = 2 ^ (201 + j) + 2 ^ (201 + j) := by rw [← Nat.add_assoc, Nat.pow_succ]; omega
    rw [h4]
    exact h3
  have hbig : (dnum (ev (ds ++ new)) d).natAbs < 2 ^ 300 := by
    have h5 : (dnum (ev (ds ++ new)) d).natAbs ≤ 2 ^ (201 + (j + 1)) := Nat.le_trans (Nat.le_mul_of_pos_right _ (Nat.two_pow_pos _)) hbd
    exact Nat.lt_of_le_of_lt h5 (Nat.pow_lt_pow_right (by decide) (by omega))
  have dab := deed_ab p.th 0 q.th (q.sh - p.sh) p.g q.g
  have dgg := deed_parts p.th 0 q.th (q.sh - p.sh) p.g q.g
  rw [hd] at dab dgg
  have dok : DOk ((ds ++ new) ++ [d]) := I.ok.snoc (by rcases dab with z | z <;> omega) (by rcases dab with z | z <;> omega) (by rcases dab with z | z <;> omega) (by rcases dab with z | z <;> omega) dgg hbig
  have evn : (ev ((ds ++ new) ++ [d]))[(ds ++ new).length + 1]? = some (dnum (ev (ds ++ new)) d) := by
    rw [ev_snoc, List.getElem?_append_right (by rw [ev_len]; exact Nat.le_refl _), ev_len, Nat.sub_self]
    rfl
  have dep : (dpt (ds ++ new)).getD p.th 0 = e := by rw [List.getD_eq_getElem?_getD, pe]; rfl
  have deq : (dpt (ds ++ new)).getD q.th 0 = e' := by rw [List.getD_eq_getElem?_getD, qe]; rfl
  have dpn : (dpt ((ds ++ new) ++ [d]))[(ds ++ new).length + 1]? = some (1 + max e e') := by
    rw [dpt_snoc, List.getElem?_append_right (by rw [dpt_len]; exact Nat.le_refl _), dpt_len, Nat.sub_self]
    rcases dab with ⟨z1, z2, _⟩ | ⟨z1, z2, _⟩
    · rw [z1, z2, dep, deq]; rfl
    · rw [z1, z2, dep, deq, Nat.max_comm]; rfl
  have hev0 : (ev (ds ++ new ++ [d])).getD ((ds ++ new).length + 1) 0 = dnum (ev (ds ++ new)) d := by rw [List.getD_eq_getElem?_getD, evn]; rfl
  have new_ok : PtOk (ds ++ new ++ [d]) (j + 1) ⟨(ds ++ new).length + 1, p.sh, signOf p.g q.g⟩ := ⟨sg, ps2, _, _, evn, dpn, by omega, hbd⟩
  refine ⟨by rw [← List.append_assoc]; exact dok, by simp [I.nl], by simp [I.ql], ?_, ?_, ?_, ?_, ?_⟩
  · have e3 : ps.take (2 * (k + 1)) = ps.take (2 * k) ++ [p, q] := by
      rw [show 2 * (k + 1) = 2 * k + 1 + 1 by omega, List.take_add_one, List.take_add_one, h1, h2]
      simp
    rw [← List.append_assoc, e3, pvs_app, pvs_app, ← I.val, pvs_one, pvs_pre I.all]
    have e4 : pvs (ev ds) [p, q] = pval (ev ds) p + pval (ev ds) q := by
      rw [show [p, q] = [p] ++ [q] from rfl, pvs_app, pvs_one, pvs_one]
    rw [e4, ← pval_pre (new := new) hpo, ← pval_pre (new := new) hqo]
    congr 1
    unfold pval
    show signOf p.g q.g * ((ev (ds ++ new ++ [d])).getD ((ds ++ new).length + 1) 0 * 2 ^ p.sh) = _
    rw [hev0, val2, gp, gq]
  · intro r hr
    rw [← List.append_assoc]
    rcases List.mem_append.mp hr with z | z
    · exact (I.all r z).pre (Nat.le_refl _)
    · rw [List.mem_singleton.mp z]
      exact new_ok
  · intro i r hr
    rcases get_snoc hr with ⟨_, z⟩ | ⟨z, rfl⟩
    · exact I.shs i r z
    · rw [z, I.ql]
      exact ⟨p, h1, rfl⟩
  · intro r hr
    rw [← List.append_assoc]
    rcases get_snoc hr with ⟨_, z⟩ | ⟨z, rfl⟩
    · exact dpt_pre _ _ (I.fst r z)
    · have hk0 : k = 0 := by rw [← I.ql]; exact z.symm
      subst hk0
      have e5 := hp.fst p h1
      have e6 := dpt_pre ds new e5
      rw [e6] at pe
      cases pe
      rw [dpn]
      congr 1
      omega
  · intro i r s hr hs hs1
    rcases get_snoc hr with ⟨_, z⟩ | ⟨z, rfl⟩
    · exact I.lst i r s z hs hs1
    · rw [z, I.ql, h2] at hs
      cases hs
      rw [hs1]
      exact signOf_one pg
theorem pri_end {ds : List Dd} {j : Nat} {ps : List Pt} {new : List Dd} {qs : List Pt} (hp : PsOk ds j ps) (h2 : 2 ≤ ps.length) (I : PrI ds j ps (ps.length / 2) new qs) : 
    (ps.length % 2 = 0 → PsOk (ds ++ new) (j + 1) qs ∧ pvs (ev (ds ++ new)) qs = pvs (ev ds) ps) ∧ (∀ p, ps.length % 2 = 1 → ps.getLast? = some p → PsOk (ds ++ new) (j + 1) (qs ++ [p]) ∧ pvs (ev (ds ++ new)) (qs ++ [p]) = pvs (ev ds) ps) := by
  have up2 : ∀ i a b, ps[2 * i]? = some a → ps[2 * (i + 1)]? = some b → a.sh ≤ b.sh := fun i a b ha hb => by
    have hl := (List.getElem?_eq_some_iff.mp hb).1
    have hm : ps[2 * i + 1]? = some ps[2 * i + 1] := List.getElem?_eq_getElem (by omega)
    have u1 := hp.up _ _ _ ha hm
    have u2 := hp.up (2 * i + 1) _ _ hm (by rw [show 2 * i + 1 + 1 = 2 * (i + 1) by omega]; exact hb)
    omega
  have upq : ∀ i a b, qs[i]? = some a → qs[i + 1]? = some b → a.sh ≤ b.sh := fun i a b ha hb => by
    obtain ⟨p1, e1, e2⟩ := I.shs i a ha
    obtain ⟨p2, e3, e4⟩ := I.shs (i + 1) b hb
    rw [e2, e4]
    exact up2 i p1 p2 e1 e3
  constructor
  · intro hev
    refine ⟨⟨I.all, upq, I.fst, fun p hl => ?_⟩, ?_⟩
    · rw [List.getLast?_eq_getElem?] at hl
      have hl2 : ps[2 * (qs.length - 1) + 1]? = ps.getLast? := by
        rw [List.getLast?_eq_getElem?, I.ql]
        congr 1
        omega
      cases hz : ps.getLast? with
      | none => rw [List.getLast?_eq_none_iff] at hz; rw [hz] at h2; simp at h2
      | some z => exact I.lst _ p z hl (hl2.trans hz) (hp.lst z hz)
    · rw [I.val, List.take_of_length_le (by omega)]
  · intro p hodd hlast
    have hpm := List.mem_of_getLast? hlast
    have hlast2 := hlast
    rw [List.getLast?_eq_getElem?] at hlast2
    refine ⟨⟨?_, ?_, ?_, ?_⟩, ?_⟩
    · intro r hr
      rcases List.mem_append.mp hr with z | z
      · exact I.all r z
      · rw [List.mem_singleton.mp z]
        exact (hp.all p hpm).pre (by omega)
    · intro i a b ha hb
      rcases get_snoc hb with ⟨hi, z⟩ | ⟨hi, rfl⟩
      · rcases get_snoc ha with ⟨_, z2⟩ | ⟨hi2, _⟩
        · exact upq i a b z2 z
        · omega
      · rcases get_snoc ha with ⟨_, z2⟩ | ⟨hi2, _⟩
        · obtain ⟨p1, e1, e2⟩ := I.shs i a z2
          rw [e2]
          refine up2 i p1 b e1 ?_
          rw [← hlast2]
          congr 1
          rw [I.ql] at hi
          omega
        · omega
    · intro r hr
      rcases get_snoc hr with ⟨_, z⟩ | ⟨hi, _⟩
      · exact I.fst r z
      · rw [I.ql] at hi
        omega
    · intro r hr
      rw [List.getLast?_append] at hr
      simp at hr
      subst hr
      exact hp.lst p hlast
    · rw [pvs_app, I.val, pvs_one, pval_pre (hp.all p hpm)]
      have e7 : ps = ps.take (2 * (ps.length / 2)) ++ [p] := by
        have e8 : 2 * (ps.length / 2) = ps.length - 1 := by omega
        rw [e8]
        have hl : ps.length = (ps.length - 1) + 1 := by omega
        conv => lhs; rw [← List.take_length (l := ps), hl, List.take_add_one, hlast2]
        rfl
      conv => rhs; rw [e7, pvs_app, pvs_one]
def pts : List Int → Nat → List Pt
  | [], _ => []
  | d :: r, k => if d = 0 then pts r (k + 1) else ⟨0, k, d⟩ :: pts r (k + 1)
theorem pts_snoc (d : Int) : ∀ (a : List Int) (k : Nat), pts (a ++ [d]) k = pts a k ++ (if d = 0 then [] else [⟨0, k + a.length, d⟩])
  | [], k => by
    show (if d = 0 then ([] : List Pt) else [⟨0, k, d⟩]) = _
    split <;> rfl
  | x :: r, k => by
    rw [List.cons_append, pts, pts, pts_snoc d r (k + 1)]
    have e : k + 1 + r.length = k + (x :: r).length := by rw [List.length_cons]; omega
    rw [e]
    split
    · rfl
    · rfl
theorem pts_len : ∀ (a : List Int) (k : Nat), (pts a k).length = wt a
  | [], _ => rfl
  | x :: r, k => by
    rw [pts, wt_cons]
    split
    · rw [pts_len r]; omega
    · rw [List.length_cons, pts_len r]; omega
theorem pts_val {ns : List Int} (h0 : ns.getD 0 0 = 1) : ∀ (a : List Int) (k : Nat), pvs ns (pts a k) = 2 ^ k * val a
  | [], k => by show (0 : Int) = 2 ^ k * 0; omega
  | x :: r, k => by
    have ih := pts_val h0 r (k + 1)
    rw [pts, show val (x :: r) = x + 2 * val r from rfl]
    have e : (2 : Int) ^ (k + 1) * val r = 2 ^ k * (2 * val r) := by rw [Int.pow_succ, Int.mul_assoc]
    split
    · rename_i hx
      subst hx
      rw [ih, e, Int.zero_add]
    · rw [show (⟨0, k, x⟩ :: pts r (k + 1) : List Pt) = [⟨0, k, x⟩] ++ pts r (k + 1) from rfl, pvs_app, pvs_one, ih, e, Int.mul_add]
      congr 1
      show x * (ns.getD 0 0 * 2 ^ k) = _
      rw [h0, Int.one_mul, Int.mul_comm]
theorem pts_mem : ∀ (a : List Int) (k : Nat), ∀ p ∈ pts a k, p.th = 0 ∧ k ≤ p.sh ∧ p.sh < k + a.length ∧ p.g ∈ a ∧ p.g ≠ 0
  | [], _, p, h => by cases h
  | x :: r, k, p, h => by
    rw [pts] at h
    have old : p ∈ pts r (k + 1) → p.th = 0 ∧ k ≤ p.sh ∧ p.sh < k + (x :: r).length ∧ p.g ∈ x :: r ∧ p.g ≠ 0 := fun h => by
      obtain ⟨h1, h2, h3, h4, h5⟩ := pts_mem r (k + 1) p h
      rw [List.length_cons]
      exact ⟨h1, by omega, by omega, List.mem_cons_of_mem _ h4, h5⟩
    split at h
    · exact old h
    · rename_i hx
      rcases List.mem_cons.mp h with e | e
      · subst e
        exact ⟨rfl, Nat.le_refl _, by show k < k + (r.length + 1); omega, List.mem_cons_self, hx⟩
      · exact old e
theorem pts_up : ∀ (a : List Int) (k : Nat) (i : Nat) (p q : Pt), (pts a k)[i]? = some p → (pts a k)[i + 1]? = some q → p.sh ≤ q.sh
  | [], _, i, p, q, h, _ => by simp [pts] at h
  | x :: r, k, i, p, q, hp, hq => by
    rw [pts] at hp hq
    split at hp
    · rename_i hx
      rw [if_pos hx] at hq
      exact pts_up r (k + 1) i p q hp hq
    · rename_i hx
      rw [if_neg hx] at hq
      rw [List.getElem?_cons_succ] at hq
      cases i with
      | zero =>
        cases hp
        have := (pts_mem r (k + 1) q (List.mem_of_getElem? hq)).2.1
        show k ≤ q.sh
        omega
      | succ i =>
        rw [List.getElem?_cons_succ] at hp
        exact pts_up r (k + 1) i p q hp hq
theorem pts_last {n : Int} (h : 0 < n) : ∀ p, (pts (naf n) 0).getLast? = some p → p.g = 1 := by
  intro p hp
  have e : naf n = (naf n).dropLast ++ [1] := by
    have := naf_rev h
    have := congrArg List.reverse this
    rw [List.reverse_reverse, List.reverse_cons, List.reverse_reverse] at this
    exact this
  rw [e, pts_snoc, if_neg (by decide), List.getLast?_append] at hp
  simp at hp
  rw [← hp]
theorem ps_start {ds : List Dd} {n : Int} (h : 0 < n) (hb : n.natAbs < 2 ^ 200) : PsOk ds 0 (pts (naf n) 0) := by
  have h0 : (ev ds)[0]? = some 1 := ev_pre [] ds (k := 0) rfl
  have d0 : (dpt ds)[0]? = some 0 := dpt_pre [] ds (k := 0) rfl
  have hl := naf_len 200 n hb
  refine ⟨fun p hp => ?_, pts_up _ _, fun p hp => ?_, pts_last h⟩
  · obtain ⟨h1, h2, h3, h4, h5⟩ := pts_mem _ _ p hp
    refine ⟨?_, by omega, 1, 0, by rw [h1]; exact h0, by rw [h1]; exact d0, Nat.le_refl _, ?_⟩
    · rcases naf_dig n p.g h4 with z | z | z
      · exact .inr z
      · exact absurd z h5
      · exact .inl z
    · show 1 * 2 ^ p.sh ≤ _
      rw [Nat.one_mul]
      exact Nat.pow_le_pow_right (by decide) (by omega)
  · rw [(pts_mem _ _ p (List.mem_of_getElem? hp)).1]
    exact d0
theorem hal_half {L : Nat} (h : 2 ≤ L) : halN (((L + 1) / 2 : Nat) : Int) + 1 = halN (L : Int) := by
  have key : ∀ d : Nat, halN (((L + 1) / 2 : Nat) : Int) ≤ d ↔ halN (L : Int) ≤ d + 1 := fun d => by
    rw [hal_iff, hal_iff, Int.pow_succ]
    have e : ((2 ^ d : Nat) : Int) = 2 ^ d := by rw [Int.natCast_pow]; rfl
    rw [← e]
    omega
  have h1 := (key (halN (((L + 1) / 2 : Nat) : Int))).mp (Nat.le_refl _)
  have h0 : ¬ halN (L : Int) ≤ 0 := fun z => by
    have := hal_iff.mp z
    rw [Int.pow_zero] at this
    omega
  have h2 := (key (halN (L : Int) - 1)).mpr (by omega)
  omega
end L2
set_option Elab.async false
set_option linter.all false
set_option maxRecDepth 100000
set_option maxHeartbeats 1000000
namespace L2
open PySem PySem.Spec PyProof.Rows
def pTup (p : Pt) : List V := [.int p.th, .int p.sh, .int p.g]
structure HPs (H : Hp) (vs : List V) (ps : List Pt) : Prop where
  len : vs.length = ps.length
  at_ : ∀ (k : Nat) (p : Pt), ps[k]? = some p → ∃ x : Addr, vs[k]? = some (.ref x) ∧ H x = some (.tup (pTup p))
theorem HPs.same {H H' : Hp} {vs : List V} {ps : List Pt} (h : HPs H vs ps) (s : Same H H') : HPs H' vs ps := ⟨h.len, fun k d e => by
  obtain ⟨x, e1, e2⟩ := h.at_ k d e
  exact ⟨x, e1, s _ _ e2⟩⟩
theorem HPs.chgL {H H' : Hp} {vs us : List V} {ps : List Pt} {l : Addr} (h : HPs H vs ps) (hl : H l = some (.lst us)) (c : Chg l H H') : HPs H' vs ps := ⟨h.len, fun k d e => by
  obtain ⟨x, e1, e2⟩ := h.at_ k d e
  exact ⟨x, e1, c _ _ (ne_of e2 hl (by intro z; cases z)) e2⟩⟩
theorem HPs.snoc {H : Hp} {vs : List V} {ps : List Pt} {p : Pt} {x : Addr} (h : HPs H vs ps) (hx : H x = some (.tup (pTup p))) : HPs H (vs ++ [.ref x]) (ps ++ [p]) := by
  refine ⟨by simp [h.len], fun k e he => ?_⟩
  rcases get_snoc he with ⟨hk, z⟩ | ⟨hk, rfl⟩
  · obtain ⟨y, e1, e2⟩ := h.at_ k e z
    exact ⟨y, by rw [List.getElem?_append_left (by rw [h.len]; exact hk)]; exact e1, e2⟩
  · refine ⟨x, ?_, hx⟩
    rw [List.getElem?_append_right (by rw [h.len]; omega), h.len, hk, Nat.sub_self]
    rfl
theorem hps_nil {H : Hp} : HPs H [] [] := ⟨rfl, fun k d h => by simp at h⟩
def spSignOf : Sp := fun vs H Q _ => ∃ (x y : Addr) (a b u t g h : Int), vs = [.ref x, .ref y] ∧ H x = some (.tup [.int a, .int u, .int g]) ∧ H y = some (.tup [.int b, .int t, .int h]) ∧ Q (.int (signOf g h)) H
def spPaired : Sp := fun vs H Q _ => ∃ (dl pl : Addr) (us : List V) (ds : List Dd) (ws : List V) (ps : List Pt) (j : Nat), vs = [.ref dl, .ref pl] ∧ H dl = some (.lst us) ∧ HDs H us ds ∧ DOk ds ∧ ds.length ≤ 4000 ∧ H pl = some (.lst ws) ∧ HPs H ws ps ∧ PsOk ds j ps ∧ j ≤ 20 ∧ 2 ≤ ps.length ∧ ps.length ≤ 300 ∧ pl ≠ dl ∧
  ∀ (r : Addr) (us' : List V) (new : List Dd) (ws' : List V) (qs : List Pt) H', Chg dl H H' → H r = none → H' dl = some (.lst us') → HDs H' us' (ds ++ new) → DOk (ds ++ new) → H' r = some (.lst ws') → HPs H' ws' qs → PsOk (ds ++ new) (j + 1) qs →
    pvs (ev (ds ++ new)) qs = pvs (ev ds) ps → new.length = ps.length / 2 → qs.length = (ps.length + 1) / 2 → Q (.ref r) H'
def spTree : Sp := fun vs H Q _ => ∃ (dl : Addr) (us : List V) (ds : List Dd) (odd : Int), vs = [.ref dl, .int odd] ∧ H dl = some (.lst us) ∧ HDs H us ds ∧ DOk ds ∧ ds.length ≤ 3000 ∧ 0 < odd ∧ odd % 2 = 1 ∧ odd.natAbs < 2 ^ 200 ∧
  ∀ (made : Nat) (us' : List V) (new : List Dd) H', Chg dl H H' → H' dl = some (.lst us') → HDs H' us' (ds ++ new) → DOk (ds ++ new) → new.length + 1 = wn odd → (ev (ds ++ new))[made]? = some odd → (dpt (ds ++ new))[made]? = some (halN (wn odd : Nat)) → Q (.int made) H'
structure HOd (K : PySem.W.Frag) (H : Hp) (os : List V) (ns : List Int) (es : List Nat) (xs : List Int) : Prop where
  len : os.length = xs.length
  at_ : ∀ (k : Nat) (n : Int), xs[k]? = some n → ∃ (x : Addr) (a b c : Int), os[k]? = some (.ref x) ∧ SqT K H x [.int a, .int b, .int c] ∧ OutOk ns n a b c ∧ (n ≠ 0 → ∃ i : Nat, a = i ∧ es[i]? = some (halN (wn n : Nat)))
theorem HOd.fgt {K : PySem.W.Frag} {H : Hp} {os : List V} {ns : List Int} {es : List Nat} {xs : List Int} (h : HOd K H os ns es xs) : HOs K H os ns xs := ⟨h.len, fun k n e => by
  obtain ⟨x, a, b, c, e1, e2, e3, _⟩ := h.at_ k n e
  exact ⟨x, a, b, c, e1, e2, e3⟩⟩
theorem HOd.same {K : PySem.W.Frag} {H H' : Hp} {os : List V} {ns : List Int} {es : List Nat} {xs : List Int} (h : HOd K H os ns es xs) (s : Same H H') : HOd K H' os ns es xs := ⟨h.len, fun k n e => by
  obtain ⟨x, a, b, c, e1, e2, e3⟩ := h.at_ k n e
  exact ⟨x, a, b, c, e1, s.seqT e2, e3⟩⟩
theorem HOd.updL {K : PySem.W.Frag} {H : Hp} {os us vs : List V} {ns : List Int} {es : List Nat} {xs : List Int} {l : Addr} (h : HOd K H os ns es xs) (hl : H l = some (.lst us)) : HOd K (upd H l (.lst vs)) os ns es xs := ⟨h.len, fun k n e => by
  obtain ⟨x, a, b, c, e1, e2, e3⟩ := h.at_ k n e
  exact ⟨x, a, b, c, e1, e2.updL hl, e3⟩⟩
theorem HOd.snoc {K : PySem.W.Frag} {H : Hp} {os : List V} {ns : List Int} {es : List Nat} {xs : List Int} {n a b c : Int} {x : Addr} (h : HOd K H os ns es xs) (hx : SqT K H x [.int a, .int b, .int c]) (ho : OutOk ns n a b c) (hd : n ≠ 0 → ∃ i : Nat, a = i ∧ es[i]? = some (halN (wn n : Nat))) : HOd K H (os ++ [.ref x]) ns es (xs ++ [n]) := by
  refine ⟨by simp [h.len], fun k e he => ?_⟩
  rcases get_snoc he with ⟨hk, z⟩ | ⟨hk, rfl⟩
  · obtain ⟨y, a', b', c', e1, e2⟩ := h.at_ k e z
    exact ⟨y, a', b', c', by rw [List.getElem?_append_left (by rw [h.len]; exact hk)]; exact e1, e2⟩
  · refine ⟨x, a, b, c, ?_, hx, ho, hd⟩
    rw [List.getElem?_append_right (by rw [h.len]; omega), h.len, hk, Nat.sub_self]
    rfl
def DpO (K : PySem.W.Frag) (H : Hp) (ol : Addr) (ds : List Dd) (xs : List Int) : Prop := ∃ os, H ol = some (.lst os) ∧ HOd K H os (ev ds) (dpt ds) xs
theorem DpO.same {K : PySem.W.Frag} {H H' : Hp} {ol : Addr} {ds : List Dd} {xs : List Int} (h : DpO K H ol ds xs) (s : Same H H') : DpO K H' ol ds xs := by
  obtain ⟨os, h1, h2⟩ := h
  exact ⟨os, s _ _ h1, h2.same s⟩
def spDeep (K : PySem.W.Frag) : Sp := fun vs H Q _ => ∃ (a : Addr) (xs : List Int), vs = [.ref a] ∧ H a = some (.lst (xs.map V.int)) ∧ xs.length ≤ 6 ∧ (∀ x ∈ xs, x.natAbs < 2 ^ 200) ∧
  ∀ (t dl ol : Addr) (ds : List Dd) H', Same H H' → H t = none → H dl = none → H ol = none → Row K H' t dl ol ds xs → DpO K H' ol ds xs → ds.length = costS (uc xs) → Q (.ref t) H'
def spLDep (K : PySem.W.Frag) : Sp := fun vs H Q _ => ∃ (t dl ol : Addr) (ds : List Dd) (xs : List Int), vs = [.ref t] ∧ Row K H t dl ol ds xs ∧ DpO K H ol ds xs ∧ xs.length ≤ 12 ∧ ds.length ≤ 3000 ∧ ∀ H', Same H H' → Q (.int (ld xs)) H'
def spRightD (K : PySem.W.Frag) : Sp := fun vs H Q _ => ∃ (t dl ol a : Addr) (ds : List Dd) (xs : List Int), vs = [.ref t, .ref a] ∧ Row K H t dl ol ds xs ∧ DpO K H ol ds xs ∧ H a = some (.lst (xs.map V.int)) ∧ xs.length ≤ 12 ∧ ds.length ≤ 3000 ∧ ((ds.length : Nat) : Int) ≤ boundI xs ∧ (∀ x ∈ xs, x.natAbs < 2 ^ 200) ∧
  ∀ H', Same H H' → Q (.bl true) H'
def outD (xs : List Int) : List Int := (xs.filter fun n => decide (n ≠ 0)).map fun n => ((halN (wn n : Nat) : Nat) : Int)
theorem outD_snoc (xs : List Int) (n : Int) : outD (xs ++ [n]) = outD xs ++ (if n = 0 then [] else [((halN (wn n : Nat) : Nat) : Int)]) := by
  unfold outD
  rw [List.filter_append, List.map_append]
  congr 1
  by_cases h : n = 0
  · subst h; rfl
  · rw [if_neg h]
    simp [h]
theorem outD_ld (xs : List Int) : mz (0 :: outD xs) = ld xs := by
  have e1 : mz (outD xs) = ld xs := by
    refine snoc_ind (p := fun xs => mz (outD xs) = ld xs) rfl (fun xs n ih => ?_) xs
    have e2 : ld (xs ++ [n]) = if ((halN (wn n : Nat) : Nat) : Int) > ld xs then ((halN (wn n : Nat) : Nat) : Int) else ld xs := by
      unfold ld
      rw [List.map_append, mz_app]
      have e3 : mz (List.map (fun n => ((halN (wn n : Nat) : Nat) : Int)) [n]) = ((halN (wn n : Nat) : Nat) : Int) := by
        show (if (0 : Int) < ((halN (wn n : Nat) : Nat) : Int) then ((halN (wn n : Nat) : Nat) : Int) else (0 : Int)) = _
        split <;> omega
      rw [e3]
    rw [outD_snoc, mz_app, ih, e2]
    by_cases h : n = 0
    · subst h
      have h0 : ((halN (wn 0 : Nat) : Nat) : Int) = 0 := by decide
      have h1 : (0 : Int) ≤ ld xs := mz_nonneg _
      rw [if_pos rfl, h0]
      show (if (0 : Int) > ld xs then (0 : Int) else ld xs) = _
      rfl
    · rw [if_neg h]
      have e3 : mz [((halN (wn n : Nat) : Nat) : Int)] = ((halN (wn n : Nat) : Nat) : Int) := by
        show (if (0 : Int) < _ then _ else (0 : Int)) = _
        split <;> omega
      rw [e3]
  have := mz_nonneg (outD xs)
  rw [mz, if_neg (by omega), e1]
theorem outD_nonneg (xs : List Int) : ∀ x ∈ 0 :: outD xs, 0 ≤ x := fun x hx => by
  rcases List.mem_cons.mp hx with e | e
  · rw [e]; exact Int.le_refl 0
  · obtain ⟨m, _, rfl⟩ := List.mem_map.mp e
    exact Int.natCast_nonneg _
def gTupK (K : PySem.W.Frag) (n : Nat) (t : TGs) : TG := gTup K n t
theorem pg_tupK {X : Cx} (K : PySem.W.Frag) {es : List Expr} {k : Nat} {t : TGs} {pos : Pos} (n : Nat) (hc : X.calm = true) (h : PGs X es t) (hK : X.K = K := by rfl) (hn : (assignEach es X.env).length = n := by rfl) (hst : (assignEach es X.env).findIdx? (·.1) = none := by rfl) : PG X (.Tuple es k pos) (gTupK K n t) := by
  subst hK
  exact pg_tup (X := X) (n := n) hc h hn hst
theorem atI_back {α : Type} {xs : List α} {v : α} (h0 : 0 < xs.length) (h : xs[xs.length - 1]? = some v) : atI xs (-1) = some v := by
  have hne : xs ≠ [] := List.length_pos_iff.mp h0
  have e := List.dropLast_concat_getLast hne
  have e2 : xs.getLast hne = v := by
    rw [List.getLast_eq_getElem]
    rw [List.getElem?_eq_getElem (by omega)] at h
    exact Option.some.inj h
  rw [e2] at e
  rw [← e]
  exact atI_last _ _
section
variable {K : PySem.W.Frag} {σ : St} {H : Hp} {R : St → Hp → Prop}
theorem w_gTupK {n : Nat} {t : TGs} {a : Addr} : gTupK K n t (.ref a) σ H R = ∃ xs, SqT K H a xs ∧ xs.length = n ∧ t xs σ H R :=
  propext ⟨fun ⟨a', xs, e, h, l, q⟩ => by cases e; exact ⟨xs, h, l, q⟩, fun ⟨xs, h, l, q⟩ => ⟨a, xs, rfl, h, l, q⟩⟩
end
end L2
set_option Elab.async false
set_option linter.all false
set_option maxRecDepth 100000
set_option maxHeartbeats 1000000
namespace L2
open PySem PySem.Spec PyProof.Rows
section
variable {X : Cx} {pins : List (Addr × Obj)} {σ : St} {H : Hp} {s : Shared} {p : Addr} {xs : List V}
def gLst (n : Nat) (t : TGs) : TG := fun v σ H Q => ∃ a xs, v = .ref a ∧ H a = some (.lst xs) ∧ xs.length = n ∧ t xs σ H Q
end
section
variable {σ : St} {H : Hp} {R : St → Hp → Prop}
theorem w_gLst {n : Nat} {t : TGs} {a : Addr} : gLst n t (.ref a) σ H R = ∃ xs, H a = some (.lst xs) ∧ xs.length = n ∧ t xs σ H R :=
  propext ⟨fun ⟨a', xs, e, h, l, q⟩ => by cases e; exact ⟨xs, h, l, q⟩, fun ⟨xs, h, l, q⟩ => ⟨a, xs, rfl, h, l, q⟩⟩
end
def ForE (K : PySem.W.Frag) (a : Addr) (g : TG) (tb : TS) (D : Ends) (σ : St) (H : Hp) : Prop := ∃ W : Nat → Nat → St → Hp → Prop, (∃ m, W 0 m σ H) ∧ ∀ i m σ H, W i m σ H →
  ((Ite K a).stop i H ∧ D.nx σ H) ∨ ((Ite K a).go i H ∧ ∃ N : St → Hp → Prop, (∀ σ' H', N σ' H' → ∃ m', m' < m ∧ W (i + 1) m' σ' H') ∧ ∀ x H', (Ite K a).yld i H x H' → g x σ H' fun σ2 H2 => tb { D with nx := N, ct := N, bk := D.nx } σ2 H2)
section
variable {K : PySem.W.Frag} {σ : St} {H : Hp} {D : Ends} {g : TG} {tb : TS} {a : Addr}
theorem w_forE {ta : TA} : tFor (iEnum K ta) g tb D σ H = (ta σ H fun vs H1 => ∃ a xs, vs = [.ref a] ∧ SqL K H1 a xs ∧ ForE K a g tb D σ H1) := rfl
end
end L2
set_option Elab.async false
set_option linter.all false
set_option maxRecDepth 100000
set_option maxHeartbeats 1000000
namespace L2
open PySem PySem.Spec
def LPen (H : Hp) (p a : Addr) (c : Int) : Prop := ∃ t l : Int, H p = some (.lst [.ref a, .int t, .int l]) ∧ 0 ≤ t ∧ t ≤ c ∧ 0 ≤ l
theorem LPen.mono {H : Hp} {p a : Addr} {c d : Int} (h : LPen H p a c) (l : c ≤ d) : LPen H p a d := by
  obtain ⟨t, x, e, h0, h1, h2⟩ := h
  exact ⟨t, x, e, h0, by omega, h2⟩
theorem LPen.same {H H' : Hp} {p a : Addr} {c : Int} (h : LPen H p a c) (s : Same H H') : LPen H' p a c := by
  obtain ⟨t, x, e, r⟩ := h
  exact ⟨t, x, s _ _ e, r⟩
theorem LPen.lst {H : Hp} {p a : Addr} {c : Int} (h : LPen H p a c) : ∃ xs, H p = some (.lst xs) := by
  obtain ⟨t, x, e, r⟩ := h
  exact ⟨_, e⟩
theorem LPen.ne {H : Hp} {p a q : Addr} {c : Int} (h : LPen H p a c) (hq : H q = none) : q ≠ p := by
  obtain ⟨xs, h⟩ := h.lst
  exact (ne_of_none h hq).symm
theorem LPen.chg {H H' : Hp} {p a q : Addr} {c : Int} (h : LPen H p a c) (n : p ≠ q) (s : Chg q H H') : LPen H' p a c := by
  obtain ⟨t, x, e, r⟩ := h
  exact ⟨t, x, s _ _ n e, r⟩
def mvI (s n : Int) : Int := n * 2 ^ (if 0 > s then (0 : Int) else s).toNat / 2 ^ (if 0 > 0 - s then (0 : Int) else 0 - s).toNat
end L2
set_option Elab.async false
set_option linter.all false
set_option maxRecDepth 100000
set_option maxHeartbeats 1000000
namespace L2
open PySem PySem.Spec
structure Wd where
  w : Str
  a : Nat
  s : Int
  b : Nat
  t : Int
structure Go where
  th : Nat
  sh : Int
  sg : Int
def wTup (d : Wd) : List V := [.str d.w, .int d.a, .int d.s, .int d.b, .int d.t]
def gTp (g : Go) : List V := [.int g.th, .int g.sh, .int g.sg]
structure HTs {α : Type} (f : α → List V) (H : Hp) (vs : List V) (xs : List α) : Prop where
  len : vs.length = xs.length
  at_ : ∀ (k : Nat) (x : α), xs[k]? = some x → ∃ p : Addr, vs[k]? = some (.ref p) ∧ H p = some (.tup (f x))
section
variable {α : Type} {f : α → List V} {H H' : Hp} {vs us : List V} {xs : List α} {l : Addr}
theorem HTs.same (h : HTs f H vs xs) (s : Same H H') : HTs f H' vs xs := ⟨h.len, fun k d e => by
  obtain ⟨x, e1, e2⟩ := h.at_ k d e
  exact ⟨x, e1, s _ _ e2⟩⟩
theorem HTs.chgL (h : HTs f H vs xs) (hl : H l = some (.lst us)) (c : Chg l H H') : HTs f H' vs xs := ⟨h.len, fun k d e => by
  obtain ⟨x, e1, e2⟩ := h.at_ k d e
  exact ⟨x, e1, c _ _ (ne_of e2 hl (by intro z; cases z)) e2⟩⟩
theorem HTs.snoc {x : α} {p : Addr} (h : HTs f H vs xs) (hx : H p = some (.tup (f x))) : HTs f H (vs ++ [.ref p]) (xs ++ [x]) := by
  refine ⟨by simp [h.len], fun k e he => ?_⟩
  rcases get_snoc he with ⟨hk, z⟩ | ⟨hk, rfl⟩
  · obtain ⟨y, e1, e2⟩ := h.at_ k e z
    exact ⟨y, by rw [List.getElem?_append_left (by rw [h.len]; exact hk)]; exact e1, e2⟩
  · refine ⟨p, ?_, hx⟩
    rw [List.getElem?_append_right (by rw [h.len]; omega), h.len, hk, Nat.sub_self]
    rfl
end
structure HRs (H : Hp) (ex : List Addr) (vs : List V) (rs : List (List Int)) : Prop where
  len : vs.length = rs.length
  at_ : ∀ (k : Nat) (r : List Int), rs[k]? = some r → ∃ p : Addr, vs[k]? = some (.ref p) ∧ H p = some (.lst (r.map V.int)) ∧ ∀ e ∈ ex, p ≠ e
section
variable {H H' : Hp} {ex : List Addr} {vs : List V} {rs : List (List Int)} {l : Addr}
theorem HRs.same (h : HRs H ex vs rs) (s : Same H H') : HRs H' ex vs rs := ⟨h.len, fun k d e => by
  obtain ⟨x, e1, e2, e3⟩ := h.at_ k d e
  exact ⟨x, e1, s _ _ e2, e3⟩⟩
theorem HRs.chg (h : HRs H ex vs rs) (hl : l ∈ ex) (c : Chg l H H') : HRs H' ex vs rs := ⟨h.len, fun k d e => by
  obtain ⟨x, e1, e2, e3⟩ := h.at_ k d e
  exact ⟨x, e1, c _ _ (e3 l hl) e2, e3⟩⟩
theorem HRs.new (h : HRs H ex vs rs) (hl : H l = none) : HRs H (l :: ex) vs rs := ⟨h.len, fun k d e => by
  obtain ⟨x, e1, e2, e3⟩ := h.at_ k d e
  refine ⟨x, e1, e2, fun z hz => ?_⟩
  rcases List.mem_cons.mp hz with e | e
  · subst e; exact ne_of_none e2 hl
  · exact e3 z e⟩
theorem HRs.snoc {r : List Int} {p : Addr} (h : HRs H ex vs rs) (hx : H p = some (.lst (r.map V.int))) (he : ∀ e ∈ ex, p ≠ e) : HRs H ex (vs ++ [.ref p]) (rs ++ [r]) := by
  refine ⟨by simp [h.len], fun k e he2 => ?_⟩
  rcases get_snoc he2 with ⟨hk, z⟩ | ⟨hk, rfl⟩
  · obtain ⟨y, e1, e2⟩ := h.at_ k e z
    exact ⟨y, by rw [List.getElem?_append_left (by rw [h.len]; exact hk)]; exact e1, e2⟩
  · refine ⟨p, ?_, hx, he⟩
    rw [List.getElem?_append_right (by rw [h.len]; omega), h.len, hk, Nat.sub_self]
    rfl
end
def RB (b : Nat) (rs : List (List Int)) : Prop := ∀ r ∈ rs, r.length ≤ 12 ∧ ∀ n ∈ r, n.natAbs ≤ 2 ^ b
theorem RB.snoc {b c : Nat} {rs : List (List Int)} {r : List Int} (h : RB b rs) (hc : b ≤ c) (hl : r.length ≤ 12) (hr : ∀ n ∈ r, n.natAbs ≤ 2 ^ c) : RB c (rs ++ [r]) := fun q hq => by
  rcases List.mem_append.mp hq with z | z
  · exact ⟨(h q z).1, fun n hn => Nat.le_trans ((h q z).2 n hn) (Nat.pow_le_pow_right (by decide) hc)⟩
  · rw [List.mem_singleton.mp z]; exact ⟨hl, hr⟩
structure WebOk (ins : Nat) (ds : List Wd) (gs : List Go) : Prop where
  i1 : 1 ≤ ins
  i2 : ins ≤ 12
  dk : ∀ (k : Nat) (d : Wd), ds[k]? = some d → d.a < ins + k ∧ d.b < ins + k ∧ (d.w = "sum" ∨ d.w = "less")
  gk : ∀ g ∈ gs, g.th < ins + ds.length
  dl : ds.length ≤ 60
  gl : gs.length ≤ 12
end L2
set_option Elab.async false
set_option linter.all false
set_option maxRecDepth 100000
set_option maxHeartbeats 1000000
namespace L2
open PySem PySem.Spec PyProof.Rows
section
variable {X : Cx}
end
end L2
set_option Elab.async false
set_option linter.all false
set_option maxRecDepth 100000
set_option maxHeartbeats 1000000
namespace L2
open PySem PySem.Spec
theorem Chg.new {p q : Addr} {H H' : Hp} (c : Chg p H H') (n : q ≠ p) (h : H' q = none) : H q = none := by
  cases e : H q with
  | none => rfl
  | some o => rw [c q o n e] at h; cases h
section
variable {K : PySem.W.Frag} {σ : St} {H : Hp} {Q : VK} {cs : List Nat} {te : TE}
end
def unitRow (n i : Nat) : List Int := (List.range n).map fun k => if k = i then 1 else 0
theorem unitRow_len (n i : Nat) : (unitRow n i).length = n := by unfold unitRow; rw [List.length_map, List.length_range]
theorem unitRow_bound {n i : Nat} {x : Int} (h : x ∈ unitRow n i) : x = 0 ∨ x = 1 := by
  unfold unitRow at h
  obtain ⟨k, _, rfl⟩ := List.mem_map.mp h
  by_cases e : k = i
  · rw [if_pos e]; exact .inr rfl
  · rw [if_neg e]; exact .inl rfl
end L2
set_option Elab.async false
set_option linter.all false
set_option maxRecDepth 100000
set_option maxHeartbeats 1000000
namespace L2
open PySem PySem.Spec
structure WI (H : Hp) (p : Addr) (ins : Nat) (tb dl : Addr) (k : Nat) (vs us : List V) (rs : List (List Int)) (ds : List Wd) (H' : Hp) : Prop where
  tbl : H' tb = some (.lst vs)
  hrs : HRs H' [dl, tb, p] vs rs
  rl : rs.length = ins + k
  rb : RB (41 * k) rs
  rw_ : ∀ r ∈ rs, r.length = ins
  dll : H' dl = some (.lst us)
  hds : HTs wTup H' us ds
  dlen : ds.length = k
  dk : ∀ (j : Nat) (d : Wd), ds[j]? = some d → d.a < ins + j ∧ d.b < ins + j ∧ (d.w = "sum" ∨ d.w = "less")
  chg : Chg p H H'
  ntb : H tb = none
  ndl : H dl = none
  tp : tb ≠ p
  dp : dl ≠ p
  td : tb ≠ dl
theorem WI.step {H : Hp} {p a : Addr} {c : Int} {ins : Nat} {tb dl : Addr} {k : Nat} {vs us : List V} {rs : List (List Int)} {ds : List Wd} {H' H'' : Hp} (h : WI H p ins tb dl k vs us rs ds H') (P : LPen H' p a c) (C : Chg p H' H'') : WI H p ins tb dl k vs us rs ds H'' := by
  obtain ⟨xs, hp⟩ := P.lst
  exact { h with tbl := C _ _ h.tp h.tbl, hrs := h.hrs.chg (by simp) C, dll := C _ _ h.dp h.dll, hds := h.hds.chgL hp C, chg := h.chg.trans C }
theorem WI.row {H : Hp} {p : Addr} {ins : Nat} {tb dl : Addr} {k : Nat} {vs us : List V} {rs : List (List Int)} {ds : List Wd} {H' : Hp} (h : WI H p ins tb dl k vs us rs ds H') {j : Nat} (hj : j < ins + k) :
    ∃ (l : Addr) (r : List Int), rs[j]? = some r ∧ atI vs (j : Int) = some (.ref l) ∧ H' l = some (.lst (r.map V.int)) ∧ l ≠ p ∧ r.length = ins ∧ ∀ x ∈ r, x.natAbs ≤ 2 ^ (41 * k) := by
  have hl : j < rs.length := by rw [h.rl]; exact hj
  obtain ⟨l, e1, e2, e3⟩ := h.hrs.at_ j _ (List.getElem?_eq_getElem hl)
  have hm := List.getElem_mem hl
  exact ⟨l, rs[j], List.getElem?_eq_getElem hl, atI_nat e1, e2, e3 p (by simp), h.rw_ _ hm, (h.rb _ hm).2⟩
theorem HRs.sub {H : Hp} {ex ex' : List Addr} {vs : List V} {rs : List (List Int)} (h : HRs H ex vs rs) (s : ∀ e ∈ ex', e ∈ ex) : HRs H ex' vs rs := ⟨h.len, fun k r e => by
  obtain ⟨p, e1, e2, e3⟩ := h.at_ k r e
  exact ⟨p, e1, e2, fun z hz => e3 z (s z hz)⟩⟩
structure WG (H : Hp) (p : Addr) (ins : Nat) (tb dl gl : Addr) (k : Nat) (vs us os : List V) (rs : List (List Int)) (ds : List Wd) (gs : List Go) (H' : Hp) : Prop where
  wi : WI H p ins tb dl k vs us rs ds H'
  hrs : HRs H' [gl, dl, tb, p] vs rs
  gll : H' gl = some (.lst os)
  hgs : HTs gTp H' os gs
  gk : ∀ g ∈ gs, g.th < ins + k
  ngl : H gl = none
  gp : gl ≠ p
  gd : gl ≠ dl
  gt : gl ≠ tb
theorem WG.step {H : Hp} {p a : Addr} {c : Int} {ins : Nat} {tb dl gl : Addr} {k : Nat} {vs us os : List V} {rs : List (List Int)} {ds : List Wd} {gs : List Go} {H' H'' : Hp} (h : WG H p ins tb dl gl k vs us os rs ds gs H') (P : LPen H' p a c) (C : Chg p H' H'') : WG H p ins tb dl gl k vs us os rs ds gs H'' := by
  obtain ⟨xs, hp⟩ := P.lst
  exact { h with wi := h.wi.step P C, hrs := h.hrs.chg (by simp) C, gll := C _ _ h.gp h.gll, hgs := h.hgs.chgL hp C }
end L2
set_option Elab.async false
set_option linter.all false
set_option maxRecDepth 100000
set_option maxHeartbeats 1000000
namespace L2
open PySem PySem.Spec
structure Wb (H : Hp) (w dl gl : Addr) (ins : Nat) (us : List V) (ds : List Wd) (os : List V) (gs : List Go) : Prop where
  tup : H w = some (.tup [.int ins, .ref dl, .ref gl])
  dll : H dl = some (.lst us)
  hds : HTs wTup H us ds
  gll : H gl = some (.lst os)
  hgs : HTs gTp H os gs
theorem Wb.same {H H' : Hp} {w dl gl : Addr} {ins : Nat} {us : List V} {ds : List Wd} {os : List V} {gs : List Go} (h : Wb H w dl gl ins us ds os gs) (s : Same H H') : Wb H' w dl gl ins us ds os gs :=
  ⟨s _ _ h.tup, s _ _ h.dll, h.hds.same s, s _ _ h.gll, h.hgs.same s⟩
theorem Wb.chg {H H' : Hp} {w dl gl l : Addr} {ins : Nat} {us xs : List V} {ds : List Wd} {os : List V} {gs : List Go} (h : Wb H w dl gl ins us ds os gs) (hl : H l = some (.lst xs)) (h1 : dl ≠ l) (h2 : gl ≠ l) (c : Chg l H H') : Wb H' w dl gl ins us ds os gs :=
  ⟨c _ _ (ne_of h.tup hl (by intro z; cases z)) h.tup, c _ _ h1 h.dll, h.hds.chgL hl c, c _ _ h2 h.gll, h.hgs.chgL hl c⟩
def sgW (w : Str) : Int := if w = "less" then -1 else 1
structure Ar where
  st : Nat
  go : Nat
  sh : Int
  sg : Int
def arrF (ins : Nat) : Nat → List Wd → List Ar
  | _, [] => []
  | k, d :: r => ⟨d.a, ins + k, d.s, 1⟩ :: ⟨d.b, ins + k, d.t, sgW d.w⟩ :: arrF ins (k + 1) r
theorem arrF_len (ins : Nat) : ∀ (xs : List Wd) (k : Nat), (arrF ins k xs).length = 2 * xs.length
  | [], _ => rfl
  | d :: r, k => by
    show (arrF ins (k + 1) r).length + 1 + 1 = _
    rw [arrF_len ins r (k + 1)]; simp; omega
theorem arr_at {ins : Nat} : ∀ {ds : List Wd} {k t : Nat} {a : Ar}, (arrF ins k ds)[t]? = some a → ∃ d, ds[t / 2]? = some d ∧ a.go = ins + k + t / 2 ∧ ((t % 2 = 0 ∧ a = ⟨d.a, ins + k + t / 2, d.s, 1⟩) ∨ (t % 2 = 1 ∧ a = ⟨d.b, ins + k + t / 2, d.t, sgW d.w⟩))
  | [], k, t, a, h => by
    rw [show arrF ins k [] = [] from rfl] at h
    simp at h
  | d :: r, k, t, a, h => by
    match t, h with
    | 0, h => cases h; exact ⟨d, rfl, rfl, .inl ⟨rfl, rfl⟩⟩
    | 1, h => cases h; exact ⟨d, rfl, rfl, .inr ⟨rfl, rfl⟩⟩
    | t + 2, h =>
      have h' : (arrF ins (k + 1) r)[t]? = some a := h
      obtain ⟨e, e1, e2, e3⟩ := arr_at h'
      have q : (t + 2) / 2 = t / 2 + 1 := by omega
      have q2 : ins + (k + 1) + t / 2 = ins + k + (t / 2 + 1) := by omega
      rw [q]
      rw [q2] at e2 e3
      refine ⟨e, e1, e2, ?_⟩
      rcases e3 with ⟨z, e3⟩ | ⟨z, e3⟩
      · exact .inl ⟨by omega, e3⟩
      · exact .inr ⟨by omega, e3⟩
theorem arr_of {ins : Nat} : ∀ {ds : List Wd} {k j : Nat} {d : Wd}, ds[j]? = some d → (arrF ins k ds)[2 * j]? = some ⟨d.a, ins + k + j, d.s, 1⟩ ∧ (arrF ins k ds)[2 * j + 1]? = some ⟨d.b, ins + k + j, d.t, sgW d.w⟩
  | [], k, j, d, h => by simp at h
  | e :: r, k, 0, d, h => by
    cases h
    exact ⟨rfl, rfl⟩
  | e :: r, k, j + 1, d, h => by
    obtain ⟨a, b⟩ := arr_of (ins := ins) (k := k + 1) (j := j) (d := d) (ds := r) h
    rw [show ins + (k + 1) + j = ins + k + (j + 1) by omega] at a b
    exact ⟨a, b⟩
inductive Rch (ins : Nat) (ds : List Wd) (gs : List Go) : Nat → Prop
  | root {g : Go} : g ∈ gs → g.sg ≠ 0 → Rch ins ds gs g.th
  | fst {k : Nat} {d : Wd} : ds[k]? = some d → Rch ins ds gs (ins + k) → Rch ins ds gs d.a
  | snd {k : Nat} {d : Wd} : ds[k]? = some d → Rch ins ds gs (ins + k) → Rch ins ds gs d.b
structure Us (ins : Nat) (ds : List Wd) (gs : List Go) (bs : List Bool) : Prop where
  len : bs.length = ins + ds.length
  iff : ∀ i, i < ins + ds.length → (bs[i]? = some true ↔ Rch ins ds gs i)
structure Ps (ins : Nat) (ds : List Wd) (gs : List Go) (i : Nat) (bs : List Bool) : Prop where
  len : bs.length = ins + ds.length
  snd : ∀ j, bs[j]? = some true → Rch ins ds gs j
  root : ∀ g ∈ gs, g.sg ≠ 0 → bs[g.th]? = some true
  clo : ∀ t a, 2 * ds.length - i ≤ t → (arrF ins 0 ds)[t]? = some a → bs[a.go]? = some true → bs[a.st]? = some true
theorem set_true {bs : List Bool} {j i : Nat} (h : bs[i]? = some true) : (bs.set j true)[i]? = some true := by
  rw [List.getElem?_set]
  split
  · split
    · rfl
    · rename_i e1 e2
      subst e1
      have := (List.getElem?_eq_some_iff.mp h).1
      omega
  · exact h
theorem arr_lt {ins : Nat} {ds : List Wd} {gs : List Go} (ok : WebOk ins ds gs) {t : Nat} {a : Ar} (h : (arrF ins 0 ds)[t]? = some a) : a.st < a.go ∧ a.go = ins + t / 2 ∧ a.go < ins + ds.length := by
  obtain ⟨d, h1, h2, h3⟩ := arr_at h
  have k := ok.dk _ d h1
  have hl := (List.getElem?_eq_some_iff.mp h1).1
  rcases h3 with ⟨_, z⟩ | ⟨_, z⟩ <;> rw [z] <;> refine ⟨?_, by show ins + 0 + t / 2 = _; omega, by show ins + 0 + t / 2 < _; omega⟩
  · show d.a < ins + 0 + t / 2
    omega
  · show d.b < ins + 0 + t / 2
    omega
theorem Ps.step {ins : Nat} {ds : List Wd} {gs : List Go} {i : Nat} {bs : List Bool} (ok : WebOk ins ds gs) (h : Ps ins ds gs i bs) {a : Ar} (hi : i < 2 * ds.length) (ha : (arrF ins 0 ds)[2 * ds.length - 1 - i]? = some a) :
    ∃ b, bs[a.go]? = some b ∧ a.st < bs.length ∧ Ps ins ds gs (i + 1) (if b = true then bs.set a.st true else bs) := by
  obtain ⟨l1, l2, l3⟩ := arr_lt ok ha
  have hl : a.go < bs.length := by rw [h.len]; exact l3
  refine ⟨bs[a.go], List.getElem?_eq_getElem hl, by omega, ?_⟩
  have at_ : ∀ t b, 2 * ds.length - (i + 1) ≤ t → (arrF ins 0 ds)[t]? = some b → t = 2 * ds.length - 1 - i ∧ b = a ∨ 2 * ds.length - i ≤ t ∧ a.go ≤ b.go := fun t b ht hb => by
    by_cases e : t = 2 * ds.length - 1 - i
    · subst e
      rw [ha] at hb
      exact .inl ⟨rfl, (Option.some.inj hb).symm⟩
    · refine .inr ⟨by omega, ?_⟩
      obtain ⟨_, m2, _⟩ := arr_lt ok hb
      rw [l2, m2]
      have : (2 * ds.length - 1 - i) / 2 ≤ t / 2 := Nat.div_le_div_right (by omega)
      omega
  cases hb : bs[a.go] with
  | false =>
    rw [if_neg (by decide)]
    refine ⟨h.len, h.snd, h.root, fun t b ht hb' hg => ?_⟩
    rcases at_ t b ht hb' with ⟨_, z⟩ | ⟨z, _⟩
    · subst z
      rw [List.getElem?_eq_getElem hl, hb] at hg
      cases hg
    · exact h.clo t b z hb' hg
  | true =>
    rw [if_pos rfl]
    have ra : Rch ins ds gs a.go := h.snd _ (by rw [List.getElem?_eq_getElem hl, hb])
    have rs : Rch ins ds gs a.st := by
      obtain ⟨d, h1, h2, h3⟩ := arr_at ha
      rw [h2, Nat.add_zero] at ra
      rcases h3 with ⟨_, z⟩ | ⟨_, z⟩
      · rw [z]; exact .fst h1 ra
      · rw [z]; exact .snd h1 ra
    refine ⟨by rw [List.length_set]; exact h.len, fun j hj => ?_, fun g hg hs => set_true (h.root g hg hs), fun t b ht hb' hg => ?_⟩
    · by_cases e : a.st = j
      · rw [← e]; exact rs
      · rw [List.getElem?_set_ne e] at hj
        exact h.snd j hj
    · rcases at_ t b ht hb' with ⟨_, z⟩ | ⟨z, m⟩
      · subst z
        rw [List.getElem?_set_self (by omega)]
      · rw [List.getElem?_set_ne (by omega)] at hg
        exact set_true (h.clo t b z hb' hg)
theorem Ps.done {ins : Nat} {ds : List Wd} {gs : List Go} {bs : List Bool} (h : Ps ins ds gs (2 * ds.length) bs) : Us ins ds gs bs := by
  refine ⟨h.len, fun i _ => ⟨h.snd i, fun r => ?_⟩⟩
  induction r with
  | root hg hs => exact h.root _ hg hs
  | @fst k d hk _ ih =>
    have l := (List.getElem?_eq_some_iff.mp hk).1
    have a := (arr_of (ins := ins) (k := 0) hk).1
    exact h.clo _ _ (by omega) a (ih (by omega))
  | @snd k d hk _ ih =>
    have l := (List.getElem?_eq_some_iff.mp hk).1
    have a := (arr_of (ins := ins) (k := 0) hk).2
    exact h.clo _ _ (by omega) a (ih (by omega))
structure Rt (ins : Nat) (ds : List Wd) (gs : List Go) (i : Nat) (bs : List Bool) : Prop where
  len : bs.length = ins + ds.length
  snd : ∀ j, bs[j]? = some true → Rch ins ds gs j
  root : ∀ k g, k < i → gs[k]? = some g → g.sg ≠ 0 → bs[g.th]? = some true
theorem Rt.step {ins : Nat} {ds : List Wd} {gs : List Go} {i : Nat} {bs : List Bool} (h : Rt ins ds gs i bs) {g : Go} (hg : gs[i]? = some g) (hlt : g.th < ins + ds.length) : Rt ins ds gs (i + 1) (if g.sg = 0 then bs else bs.set g.th true) := by
  by_cases z : g.sg = 0
  · rw [if_pos z]
    refine ⟨h.len, h.snd, fun k e hk he hs => ?_⟩
    by_cases q : k = i
    · subst q
      rw [hg] at he
      cases he
      exact absurd z hs
    · exact h.root k e (by omega) he hs
  · rw [if_neg z]
    refine ⟨by rw [List.length_set]; exact h.len, fun j hj => ?_, fun k e hk he hs => ?_⟩
    · by_cases e : g.th = j
      · rw [← e]; exact .root (List.mem_of_getElem? hg) z
      · rw [List.getElem?_set_ne e] at hj
        exact h.snd j hj
    · by_cases q : k = i
      · subst q
        rw [hg] at he
        cases he
        rw [List.getElem?_set_self (by rw [h.len]; exact hlt)]
      · exact set_true (h.root k e (by omega) he hs)
theorem Rt.done {ins : Nat} {ds : List Wd} {gs : List Go} {bs : List Bool} (h : Rt ins ds gs gs.length bs) : Ps ins ds gs 0 bs := by
  refine ⟨h.len, h.snd, fun g hg hs => ?_, fun t a ht ha => ?_⟩
  · obtain ⟨k, hk⟩ := List.getElem?_of_mem hg
    exact h.root k g (List.getElem?_eq_some_iff.mp hk).1 hk hs
  · have := (List.getElem?_eq_some_iff.mp ha).1
    rw [arrF_len] at this
    omega
end L2
set_option Elab.async false
set_option linter.all false
set_option maxRecDepth 100000
set_option maxHeartbeats 1000000
namespace L2
open PySem PySem.Spec
section
variable {H : Hp} {Q : VK}
theorem w_pop {l : Addr} : rPop (.ref l) [] H Q = ∃ xs y, H l = some (.lst xs) ∧ xs[xs.length - 1]? = some y ∧ Q y (upd H l (.lst xs.dropLast)) :=
  propext ⟨fun ⟨l', xs, y, e, _, h, g, q⟩ => by cases e; exact ⟨xs, y, h, g, q⟩, fun ⟨xs, y, h, g, q⟩ => ⟨l, xs, y, rfl, rfl, h, g, q⟩⟩
theorem w_extend {l b : Addr} : rExtend (.ref l) [.ref b] H Q = ∃ xs zs, H l = some (.lst xs) ∧ H b = some (.lst zs) ∧ xs.length + zs.length ≤ sizeLine ∧ Q .non (upd H l (.lst (xs ++ zs))) :=
  propext ⟨fun ⟨l', b', xs, zs, e, e2, h⟩ => by cases e; cases e2; exact ⟨xs, zs, h⟩, fun ⟨xs, zs, h⟩ => ⟨l, b, xs, zs, rfl, rfl, h⟩⟩
theorem w_reverse {l : Addr} : rReverse (.ref l) [] H Q = ∃ xs, H l = some (.lst xs) ∧ Q .non (upd H l (.lst xs.reverse)) :=
  propext ⟨fun ⟨l', xs, e, _, h⟩ => by cases e; exact ⟨xs, h⟩, fun ⟨xs, h⟩ => ⟨l, xs, rfl, rfl, h⟩⟩
theorem w_clear {l : Addr} : rClear (.ref l) [] H Q = ∃ xs, H l = some (.lst xs) ∧ Q .non (upd H l (.lst [])) :=
  propext ⟨fun ⟨l', xs, e, _, h⟩ => by cases e; exact ⟨xs, h⟩, fun ⟨xs, h⟩ => ⟨l, xs, rfl, rfl, h⟩⟩
theorem w_cat {l b : Addr} : rCat (.ref l) (.ref b) H Q = ∃ xs zs, H l = some (.lst xs) ∧ H b = some (.lst zs) ∧ xs.length + zs.length ≤ sizeLine ∧ ∀ p, H p = none → Q (.ref p) (upd H p (.lst (xs ++ zs))) :=
  propext ⟨fun ⟨l', b', xs, zs, e, e2, h⟩ => by cases e; cases e2; exact ⟨xs, zs, h⟩, fun ⟨xs, zs, h⟩ => ⟨l, b, xs, zs, rfl, rfl, h⟩⟩
end
section
variable {X : Cx}
end
section
variable {K : PySem.W.Frag} {σ : St} {H : Hp} {Q : VK} {cs : List Nat} {tt : TT} {te : TE}
end
def fr (ms : List Nat) : Nat → Nat
  | 0 => 0
  | n + 1 => (if n ∈ ms then 0 else 1) + fr ms n
structure Sr (ins : Nat) (ds : List Wd) (gs : List Go) (ws ms : List Nat) : Prop where
  sw : ∀ x ∈ ws, Rch ins ds gs x ∧ x < ins + ds.length
  sm : ∀ x ∈ ms, Rch ins ds gs x
  rt : ∀ g ∈ gs, g.sg ≠ 0 → g.th ∈ ws ∨ g.th ∈ ms
  cl : ∀ k d, ds[k]? = some d → ins + k ∈ ms → (d.a ∈ ws ∨ d.a ∈ ms) ∧ (d.b ∈ ws ∨ d.b ∈ ms)
  ct : ms.length + fr ms (ins + ds.length) = ins + ds.length
theorem Sr.old {ins : Nat} {ds : List Wd} {gs : List Go} {ws ms : List Nat} {x : Nat} (h : Sr ins ds gs (ws ++ [x]) ms) (hx : x ∈ ms) : Sr ins ds gs ws ms := by
  have fix : ∀ y, y ∈ ws ++ [x] ∨ y ∈ ms → y ∈ ws ∨ y ∈ ms := fun y hy => by
    rcases hy with z | z
    · rcases List.mem_append.mp z with z | z
      · exact .inl z
      · rw [List.mem_singleton.mp z]; exact .inr hx
    · exact .inr z
  exact ⟨fun y hy => h.sw y (List.mem_append_left _ hy), h.sm, fun g hg hs => fix _ (h.rt g hg hs), fun k d hk hm => ⟨fix _ (h.cl k d hk hm).1, fix _ (h.cl k d hk hm).2⟩, h.ct⟩
theorem Sr.done {ins : Nat} {ds : List Wd} {gs : List Go} {ms : List Nat} (h : Sr ins ds gs [] ms) : Us ins ds gs ((List.range (ins + ds.length)).map fun i => decide (i ∈ ms)) := by
  refine ⟨by rw [List.length_map, List.length_range], fun i hi => ?_⟩
  rw [List.getElem?_map, List.getElem?_range hi]
  show some (decide (i ∈ ms)) = some true ↔ _
  simp only [Option.some.injEq, decide_eq_true_eq]
  refine ⟨h.sm i, fun r => ?_⟩
  have no : ∀ {y : Nat}, y ∈ ([] : List Nat) ∨ y ∈ ms → y ∈ ms := fun z => by
    rcases z with z | z
    · cases z
    · exact z
  induction r with
  | root hg hs => exact no (h.rt _ hg hs)
  | @fst k d hk _ ih => exact no (h.cl k d hk (ih (by have := (List.getElem?_eq_some_iff.mp hk).1; omega))).1
  | @snd k d hk _ ih => exact no (h.cl k d hk (ih (by have := (List.getElem?_eq_some_iff.mp hk).1; omega))).2
theorem hts_isL {α : Type} {f : α → List V} {K : PySem.W.Frag} {H : Hp} (hf : ∀ a, (f a).all flatV = true) : ∀ {xs : List α} {vs : List V}, HTs f H vs xs → IsL K H vs (xs.map fun a => .t ((f a).map Dt.f))
  | [], vs, h => by
    have : vs = [] := List.eq_nil_of_length_eq_zero h.len
    subst this
    rw [List.map_nil, IsL]
  | a :: r, vs, h => by
    obtain ⟨p, h1, h2⟩ := h.at_ 0 a rfl
    cases vs with
    | nil => cases h1
    | cons v vs =>
      cases h1
      rw [List.map_cons, IsL]
      refine ⟨_, _, rfl, is_tup (SqT.of h2) (hf a), hts_isL hf ⟨by have := h.len; simpa using this, fun k x hx => ?_⟩⟩
      exact h.at_ (k + 1) x hx
def webDt (ins : Nat) (ds : List Wd) (gs : List Go) : Dt := .t [.f (.int ins), .l (ds.map fun d => .t ((wTup d).map Dt.f)), .l (gs.map fun g => .t ((gTp g).map Dt.f))]
theorem Wb.is {K : PySem.W.Frag} {H : Hp} {w dl gl : Addr} {ins : Nat} {us : List V} {ds : List Wd} {os : List V} {gs : List Go} (h : Wb H w dl gl ins us ds os gs) : Is K H (.ref w) (webDt ins ds gs) := by
  unfold webDt
  rw [Is]
  refine ⟨w, _, rfl, SqT.of h.tup, ?_⟩
  rw [IsL]
  refine ⟨_, _, rfl, by rw [Is]; exact ⟨rfl, rfl⟩, ?_⟩
  rw [IsL]
  refine ⟨_, _, rfl, ?_, ?_⟩
  · rw [Is]
    exact ⟨dl, us, rfl, SqL.of h.dll, hts_isL (fun _ => rfl) h.hds⟩
  · rw [IsL]
    refine ⟨_, _, rfl, ?_, by rw [IsL]⟩
    rw [Is]
    exact ⟨gl, os, rfl, SqL.of h.gll, hts_isL (fun _ => rfl) h.hgs⟩
structure Hd (H : Hp) (ex : List Addr) (hs : List V) : Prop where
  at_ : ∀ v ∈ hs, ∃ (q f d : Addr) (bs : List Bool), v = .ref q ∧ H q = some (.lst [.ref f, .ref d]) ∧ H f = some (.lst (bs.map V.bl)) ∧ H d = some (.lst (bs.map V.bl)) ∧ bs.length ≤ 200 ∧ ∀ e ∈ ex, q ≠ e ∧ f ≠ e ∧ d ≠ e
theorem Hd.chg {H H' : Hp} {ex : List Addr} {hs : List V} {l : Addr} (h : Hd H ex hs) (hl : l ∈ ex) (c : Chg l H H') : Hd H' ex hs := ⟨fun v hv => by
  obtain ⟨q, f, d, bs, e, a1, a2, a3, a4, a5⟩ := h.at_ v hv
  obtain ⟨n1, n2, n3⟩ := a5 l hl
  exact ⟨q, f, d, bs, e, c _ _ n1 a1, c _ _ n2 a2, c _ _ n3 a3, a4, a5⟩⟩
theorem Hd.snoc {H : Hp} {ex : List Addr} {hs : List V} (h : Hd H ex hs) {q f d : Addr} {bs : List Bool} (h1 : H q = some (.lst [.ref f, .ref d])) (h2 : H f = some (.lst (bs.map V.bl))) (h3 : H d = some (.lst (bs.map V.bl))) (h4 : bs.length ≤ 200) (h5 : ∀ e ∈ ex, q ≠ e ∧ f ≠ e ∧ d ≠ e) : Hd H ex (hs ++ [.ref q]) := ⟨fun v hv => by
  rcases List.mem_append.mp hv with z | z
  · exact h.at_ v z
  · rw [List.mem_singleton.mp z]
    exact ⟨q, f, d, bs, rfl, h1, h2, h3, h4, h5⟩⟩
def IsW (H : Hp) (hd : Addr) (x : V) : Prop := ∃ (w dl gl : Addr) (ins : Nat) (us : List V) (ds : List Wd) (os : List V) (gs : List Go), x = .ref w ∧ Wb H w dl gl ins us ds os gs ∧ WebOk ins ds gs ∧ dl ≠ hd ∧ gl ≠ hd
theorem IsW.chg {H H' : Hp} {hd : Addr} {x : V} {xs : List V} (h : IsW H hd x) (hl : H hd = some (.lst xs)) (c : Chg hd H H') : IsW H' hd x := by
  obtain ⟨w, dl, gl, ins, us, ds, os, gs, rfl, W, ok, n1, n2⟩ := h
  exact ⟨w, dl, gl, ins, us, ds, os, gs, rfl, W.chg hl n1 n2 c, ok, n1, n2⟩
end L2
set_option Elab.async false
set_option linter.all false
set_option maxRecDepth 100000
set_option maxHeartbeats 1000000
namespace L2
open PySem PySem.Spec PyProof.Rows
abbrev ZX (h : Heap) (z TI TO a : Addr) (f : Bool) : Prop := h.get? z = some { cls := .type "zip", dict := none, data := .fields #[rawInt a, .bool f, .bool false, .ref TI, .ref TO], slots := #[] }
section
variable {prog : Program} {w : World} {A : Around} {E : Value → Shared → Prop} {s : Shared}
def ZSt (h : Heap) (z TI TO i1 i2 l1 l2 S : Addr) (k : Nat) : Prop :=
  IsPair h TI (.ref i1) (.ref i2) ∧ h.IsListIter i1 l1 k ∧ h.IsListIter i2 l2 k ∧ ((k = 0 ∧ IsZip h z TI TO .none ∧ ∃ x y, IsPair h TO x y) ∨ ∃ a f oa, ZX h z TI TO a f ∧ h.get? a = some oa ∧ a ≠ z ∧ a ≠ S ∧ a ≠ i1 ∧ a ≠ i2)
theorem ZSt.keep {h h' : Heap} {z TI TO i1 i2 l1 l2 S : Addr} {k : Nat} (st : ZSt h z TI TO i1 i2 l1 l2 S k) (hk : ∀ b o, b ≠ S → h.get? b = some o → h'.get? b = some o) (n : z ≠ S ∧ TI ≠ S ∧ TO ≠ S ∧ i1 ≠ S ∧ i2 ≠ S) : ZSt h' z TI TO i1 i2 l1 l2 S k := by
  obtain ⟨a, b, c, d⟩ := st
  obtain ⟨n1, n2, n3, n4, n5⟩ := n
  refine ⟨hk _ _ n2 a, b.at fun o e => hk _ o n4 e, c.at fun o e => hk _ o n5 e, ?_⟩
  rcases d with ⟨e, d1, x, y, d2⟩ | ⟨a, f, oa, d1, d2, d3, d4, d5⟩
  · exact .inl ⟨e, hk _ _ n1 d1, x, y, hk _ _ n3 d2⟩
  · exact .inr ⟨a, f, oa, hk _ _ n1 d1, hk _ _ d4 d2, d3, d4, d5⟩
structure ZG (xs ys : Array Value) (lo : Addr) (h : Heap) (as : List Addr) : Prop where
  above : ∀ a ∈ as, lo < a
  nd : as.Pairwise (· < ·)
  pair : ∀ (j : Nat) (a : Addr), as[j]? = some a → ∃ x y, xs[j]? = some x ∧ ys[j]? = some y ∧ IsPair h a x y
theorem ZG.lt {xs ys : Array Value} {lo a : Addr} {h : Heap} {as : List Addr} (g : ZG xs ys lo h as) (ha : a ∈ as) : a < h.objs.size := by
  obtain ⟨j, hj⟩ := List.mem_iff_getElem?.mp ha
  obtain ⟨x, y, _, _, e⟩ := g.pair j a hj
  exact Heap.lt_size e
end
section
variable {prog : Program} {w : World} {A : Around} {s : Shared} {R : Result → Shared → Prop} {xs ys : Array Value} {z TI TO i1 i2 l1 l2 S lo : Addr}
end
section
variable {prog : Program} {w : World} {A : Around} {E : Value → Shared → Prop} {s : Shared} {xs ys : Array Value} {z TI TO i1 i2 l1 l2 : Addr}
end
def tLZ (K : PySem.W.Frag) (ta : TA) : TE := fun σ H Q => ta σ H fun vs H1 => ∃ a b us ws, vs = [.ref a, .ref b] ∧ SqL K H1 a us ∧ SqL K H1 b ws ∧ ws.length = us.length ∧ us.length ≤ 1000 ∧
  ∀ l zs H', H1 l = none → Same H1 H' → H' l = some (.lst zs) → zs.length = us.length → (∀ (k : Nat) (x y : V), us[k]? = some x → ws[k]? = some y → ∃ t : Addr, zs[k]? = some (.ref t) ∧ H' t = some (.tup [x, y])) → Q (.ref l) H'
theorem w_LZ {K : PySem.W.Frag} {ta : TA} {σ : St} {H : Hp} {Q : VK} : tLZ K ta σ H Q = (ta σ H fun vs H1 => ∃ a b us ws, vs = [.ref a, .ref b] ∧ SqL K H1 a us ∧ SqL K H1 b ws ∧ ws.length = us.length ∧ us.length ≤ 1000 ∧
  ∀ l zs H', H1 l = none → Same H1 H' → H' l = some (.lst zs) → zs.length = us.length → (∀ (k : Nat) (x y : V), us[k]? = some x → ws[k]? = some y → ∃ t : Addr, zs[k]? = some (.ref t) ∧ H' t = some (.tup [x, y])) → Q (.ref l) H') := rfl
end L2
set_option Elab.async false
set_option linter.all false
set_option maxRecDepth 100000
set_option maxHeartbeats 1000000
namespace L2
open PySem PySem.Spec
def rowD (rs : List (List Int)) (d : Wd) : List Int := List.zipWith (fun x y => mvI d.s x + sgW d.w * mvI d.t y) (rs.getD d.a []) (rs.getD d.b [])
def rowsW (ins : Nat) (ds : List Wd) : List (List Int) := ds.foldl (fun rs d => rs ++ [rowD rs d]) ((List.range ins).map (unitRow ins))
theorem rowsW_snoc (ins : Nat) (ds : List Wd) (d : Wd) : rowsW ins (ds ++ [d]) = rowsW ins ds ++ [rowD (rowsW ins ds) d] := by unfold rowsW; rw [List.foldl_append]; rfl
theorem rowsW_len (ins : Nat) (ds : List Wd) : (rowsW ins ds).length = ins + ds.length := by
  refine snoc_ind (p := fun ds => (rowsW ins ds).length = ins + ds.length) ?_ (fun xs x ih => ?_) ds
  · unfold rowsW; simp
  · rw [rowsW_snoc, List.length_append, ih]; simp; omega
theorem rowsW_pre (ins : Nat) (ds new : List Wd) {k : Nat} {r : List Int} (h : (rowsW ins ds)[k]? = some r) : (rowsW ins (ds ++ new))[k]? = some r := by
  refine snoc_ind (p := fun new => (rowsW ins (ds ++ new))[k]? = some r) (by rw [List.append_nil]; exact h) (fun xs x ih => ?_) new
  rw [← List.append_assoc, rowsW_snoc, List.getElem?_append_left (List.getElem?_eq_some_iff.mp ih).1]
  exact ih
theorem getD_of {α : Type} {xs : List α} {k : Nat} {x d : α} (h : xs[k]? = some x) : xs.getD k d = x := by rw [List.getD_eq_getElem?_getD, h]; rfl
def Dv (s : Int) (r : List Int) : Prop := s < 0 → ∀ x ∈ r, (2 : Int) ^ (-s).toNat ∣ x
def Sh (s : Int) (r : List Int) : Prop := -40 ≤ s ∧ s ≤ 40 ∧ Dv s r
def ShOk (ins : Nat) (ds : List Wd) : Prop := ∀ (k : Nat) (d : Wd), ds[k]? = some d → d.a < ins + k ∧ d.b < ins + k ∧ Sh d.s ((rowsW ins ds).getD d.a []) ∧ Sh d.t ((rowsW ins ds).getD d.b [])
theorem rows_stay (ins : Nat) (ds : List Wd) (d : Wd) {j : Nat} (h : j < ins + ds.length) : (rowsW ins (ds ++ [d])).getD j [] = (rowsW ins ds).getD j [] := by
  have hj : j < (rowsW ins ds).length := by rw [rowsW_len]; exact h
  have e := List.getElem?_eq_getElem hj
  rw [getD_of e, getD_of (rowsW_pre ins ds [d] e)]
theorem ShOk.snoc {ins : Nat} {ds : List Wd} {d : Wd} (h : ShOk ins ds) (h1 : d.a < ins + ds.length) (h2 : d.b < ins + ds.length) (h3 : Sh d.s ((rowsW ins ds).getD d.a [])) (h4 : Sh d.t ((rowsW ins ds).getD d.b [])) : ShOk ins (ds ++ [d]) := fun k e he => by
  rcases get_snoc he with ⟨hk, z⟩ | ⟨hk, rfl⟩
  · obtain ⟨a, b, c, f⟩ := h k e z
    rw [rows_stay ins ds d (by omega), rows_stay ins ds d (by omega)]
    exact ⟨a, b, c, f⟩
  · rw [rows_stay ins ds _ h1, rows_stay ins ds _ h2, hk]
    exact ⟨h1, h2, h3, h4⟩
def GoOk (ins : Nat) (ds : List Wd) (gs : List Go) : Prop := ∀ g ∈ gs, g = ⟨0, 0, 0⟩ ∨ ((g.sg = 1 ∨ g.sg = -1) ∧ Sh g.sh ((rowsW ins ds).getD g.th []))
structure FWeb (ins : Nat) (ds : List Wd) (gs : List Go) : Prop where
  ok : WebOk ins ds gs
  sh : ShOk ins ds
  go : GoOk ins ds gs
  rb : RB (41 * ds.length) (rowsW ins ds)
  wd : ∀ r ∈ rowsW ins ds, r.length = ins
theorem WI.stepL {H : Hp} {p : Addr} {ins : Nat} {tb dl : Addr} {k : Nat} {vs us xs : List V} {rs : List (List Int)} {ds : List Wd} {H' H'' : Hp} (h : WI H p ins tb dl k vs us rs ds H') (hp : H' p = some (.lst xs)) (C : Chg p H' H'') : WI H p ins tb dl k vs us rs ds H'' :=
  { h with tbl := C _ _ h.tp h.tbl, hrs := h.hrs.chg (by simp) C, dll := C _ _ h.dp h.dll, hds := h.hds.chgL hp C, chg := h.chg.trans C }
structure FI (H : Hp) (p : Addr) (ins : Nat) (tb dl : Addr) (k : Nat) (vs us : List V) (ds : List Wd) (H' : Hp) : Prop where
  wi : WI H p ins tb dl k vs us (rowsW ins ds) ds H'
  sh : ShOk ins ds
theorem FI.step {H : Hp} {p : Addr} {c : Int} {ins : Nat} {tb dl : Addr} {k : Nat} {vs us : List V} {ds : List Wd} {H' H'' : Hp} (h : FI H p ins tb dl k vs us ds H') (F : Feed H' p c) (C : Chg p H' H'') : FI H p ins tb dl k vs us ds H'' := by
  obtain ⟨xs, hp⟩ := F.lst
  exact ⟨h.wi.stepL hp C, h.sh⟩
section
variable {K : PySem.W.Frag} {σ : St} {H : Hp} {Q : VK} {cs : List Nat} {te : TE}
end
structure FG (H : Hp) (p : Addr) (ins : Nat) (tb dl gl : Addr) (k : Nat) (vs us os : List V) (ds : List Wd) (gs : List Go) (H' : Hp) : Prop where
  wg : WG H p ins tb dl gl k vs us os (rowsW ins ds) ds gs H'
  sh : ShOk ins ds
  go : GoOk ins ds gs
theorem FG.step {H : Hp} {p : Addr} {c : Int} {ins : Nat} {tb dl gl : Addr} {k : Nat} {vs us os : List V} {ds : List Wd} {gs : List Go} {H' H'' : Hp} (h : FG H p ins tb dl gl k vs us os ds gs H') (F : Feed H' p c) (C : Chg p H' H'') : FG H p ins tb dl gl k vs us os ds gs H'' := by
  obtain ⟨xs, hp⟩ := F.lst
  exact ⟨{ h.wg with wi := h.wg.wi.stepL hp C, hrs := h.wg.hrs.chg (by simp) C, gll := C _ _ h.wg.gp h.wg.gll, hgs := h.wg.hgs.chgL hp C }, h.sh, h.go⟩
end L2
set_option Elab.async false
set_option linter.all false
set_option maxRecDepth 100000
set_option maxHeartbeats 1000000
namespace L2
open PySem PySem.Spec
section
variable {K : PySem.W.Frag} {σ : St} {H : Hp} {Q : VK} {cs : List Nat} {te : TE}
end
theorem RB.lt {b : Nat} {rs : List (List Int)} {r : List Int} (h : RB b rs) (hr : r ∈ rs) (hb : b ≤ 8000) : ∀ x ∈ r, x.natAbs < 2 ^ 9000 := fun x hx => Nat.lt_of_le_of_lt ((h r hr).2 x hx) (Nat.pow_lt_pow_right (by decide) (by omega))
end L2
set_option Elab.async false
set_option linter.all false
set_option maxRecDepth 100000
set_option maxHeartbeats 1000000
namespace L2
open PySem PySem.Spec
theorem HTs.take {α : Type} {f : α → List V} {H : Hp} {vs : List V} {xs : List α} (h : HTs f H vs xs) (n : Nat) : HTs f H (vs.take n) (xs.take n) := by
  refine ⟨by rw [List.length_take, List.length_take, h.len], fun k x hx => ?_⟩
  have hk : k < n := by
    have := (List.getElem?_eq_some_iff.mp hx).1
    rw [List.length_take] at this
    omega
  rw [List.getElem?_take_of_lt hk] at hx ⊢
  exact h.at_ k x hx
theorem rowsW_zero (ins : Nat) (ds : List Wd) : (rowsW ins ds).take ins = rowsW ins [] := by
  refine snoc_ind (p := fun ds => (rowsW ins ds).take ins = rowsW ins []) ?_ (fun xs x ih => ?_) ds
  · exact List.take_of_length_le (by rw [rowsW_len]; simp)
  · rw [rowsW_snoc, List.take_append_of_le_length (by rw [rowsW_len]; omega)]
    exact ih
theorem FWeb.bare {ins : Nat} {ds : List Wd} {gs : List Go} (h : FWeb ins ds gs) : FWeb ins [] [] := by
  have sub : ∀ r ∈ rowsW ins [], r ∈ rowsW ins ds := fun r hr => by
    rw [← rowsW_zero ins ds] at hr
    exact List.mem_of_mem_take hr
  refine ⟨⟨h.ok.i1, h.ok.i2, fun k d e => by simp at e, (fun g hg => by cases hg), by decide, by decide⟩, (fun k d e => by simp at e), (fun g hg => by cases hg), fun r hr => ?_, fun r hr => h.wd r (sub r hr)⟩
  have hr' : r ∈ (List.range ins).map (unitRow ins) := hr
  obtain ⟨i, _, rfl⟩ := List.mem_map.mp hr'
  refine ⟨by rw [unitRow_len]; exact h.ok.i2, fun n hn => ?_⟩
  rcases unitRow_bound hn with z | z <;> subst z <;> decide
end L2
set_option Elab.async false
set_option linter.all false
set_option maxRecDepth 100000
set_option maxHeartbeats 1000000
namespace L2
open PySem PySem.Spec
section
variable {α : Type} {f : α → List V} {K : PySem.W.Frag} {H : Hp} {l l' : Addr} {ys ys' : List V} {xs : List α} {Q : VK}
end
theorem HRs.take {H : Hp} {ex : List Addr} {vs : List V} {xs : List (List Int)} (h : HRs H ex vs xs) (n : Nat) : HRs H ex (vs.take n) (xs.take n) := by
  refine ⟨by rw [List.length_take, List.length_take, h.len], fun k x hx => ?_⟩
  have hk : k < n := by
    have := (List.getElem?_eq_some_iff.mp hx).1
    rw [List.length_take] at this
    omega
  rw [List.getElem?_take_of_lt hk] at hx ⊢
  exact h.at_ k x hx
theorem HRs.drop {H : Hp} {ex : List Addr} {vs : List V} {xs : List (List Int)} (h : HRs H ex vs xs) (n : Nat) : HRs H ex (vs.drop n) (xs.drop n) := by
  refine ⟨by rw [List.length_drop, List.length_drop, h.len], fun k x hx => ?_⟩
  rw [List.getElem?_drop] at hx ⊢
  exact h.at_ (n + k) x hx
end L2
set_option Elab.async false
set_option linter.all false
set_option maxRecDepth 100000
set_option maxHeartbeats 1000000
namespace L2
open PySem PySem.Spec PyProof.Rows
def tLR (ta : TA) : TE := fun σ H Q => ta σ H fun vs H1 => ∃ j : Nat, vs = [.int (j : Int)] ∧ j ≤ 1000 ∧ ∀ l H', H1 l = none → Same H1 H' → H' l = some (.lst (rngV 0 j)) → Q (.ref l) H'
theorem w_LR {ta : TA} {σ : St} {H : Hp} {Q : VK} : tLR ta σ H Q = (ta σ H fun vs H1 => ∃ j : Nat, vs = [.int (j : Int)] ∧ j ≤ 1000 ∧ ∀ l H', H1 l = none → Same H1 H' → H' l = some (.lst (rngV 0 j)) → Q (.ref l) H') := rfl
def iRngD (ta : TA) : TI := fun σ H R => ta σ H fun vs H1 => ∃ i : Int, vs = [.int i, .int (-1), .int (-1)] ∧ (-1 ≤ i ∧ i < 2 ^ 31) ∧ R (Itr3 i (-1) (i + 1).toNat) H1
theorem w_forD {σ : St} {H : Hp} {D : Ends} {g : TG} {tb : TS} {ta : TA} : tFor (iRngD ta) g tb D σ H = (ta σ H fun vs H1 => ∃ i : Int, vs = [.int i, .int (-1), .int (-1)] ∧ (-1 ≤ i ∧ i < 2 ^ 31) ∧ ForR3 i (-1) (i + 1).toNat g tb D σ H1) := rfl
def keptN (bs : List Bool) (ins : Nat) : Nat → Nat
  | 0 => 0
  | k + 1 => keptN bs ins k + (if bs.getD (ins + k) false = true then 1 else 0)
def renN (bs : List Bool) (ins j : Nat) : Nat := if j < ins then j else ins + keptN bs ins (j - ins)
section
variable {K : PySem.W.Frag} {σ : St} {H : Hp} {Q : VK} {cs : List Nat} {te : TE}
end
end L2
set_option Elab.async false
set_option linter.all false
set_option maxRecDepth 100000
set_option maxHeartbeats 1000000
namespace L2
open PySem PySem.Spec PyProof.Rows
section
variable {prog : Program} {w : World} {A : Around} {E : Value → Shared → Prop} {s : Shared}
def TI2 (h : Heap) (it t : Addr) (items : Array Value) (i : Nat) : Prop := h.IsTupleIter it t i ∧ h.IsTuple t items
theorem TI2.at {h h' : Heap} {it t : Addr} {items : Array Value} {i : Nat} (x : TI2 h it t items i) (k1 : ∀ o, h.get? it = some o → h'.get? it = some o) (k2 : ∀ o, h.get? t = some o → h'.get? t = some o) : TI2 h' it t items i := by
  obtain ⟨⟨o, e, r⟩, ⟨o2, e2, r2⟩⟩ := x
  exact ⟨⟨o, k1 o e, r⟩, ⟨o2, k2 o2 e2, r2⟩⟩
theorem TI2.but {h h' : Heap} {it t c : Addr} {items : Array Value} {i : Nat} (x : TI2 h it t items i) (b : Heap.ExtBut c h h') (n1 : it ≠ c) (n2 : t ≠ c) : TI2 h' it t items i :=
  x.at (fun o e => b _ o n1 e) (fun o e => b _ o n2 e)
end
section
variable {prog : Program} {w : World} {A : Around} {E : Value → Shared → Prop} {s : Shared}
end
def Itzt (K : PySem.W.Frag) (a b : Addr) : It :=
  ⟨fun i H => ∃ xs ys, SqT K H a xs ∧ SqT K H b ys ∧ i < xs.length ∧ i < ys.length,
   fun i H x H' => ∃ T u v, x = .ref T ∧ H T = none ∧ H' = upd H T (.tup [u, v]) ∧ (∀ xs, SqT K H a xs → xs[i]? = some u) ∧ (∀ ys, SqT K H b ys → ys[i]? = some v),
   fun i H => ∃ xs ys, SqT K H a xs ∧ SqT K H b ys ∧ (xs.length ≤ i ∨ ys.length ≤ i)⟩
def iZip2 (K : PySem.W.Frag) (ta : TA) : TI := fun σ H R => ta σ H fun vs H1 => ∃ a b xs ys, vs = [.ref a, .ref b] ∧ ((SqL K H1 a xs ∧ SqL K H1 b ys ∧ R (Itz K a b) H1) ∨ (SqT K H1 a xs ∧ SqT K H1 b ys ∧ R (Itzt K a b) H1))
theorem w_compZ2 {K : PySem.W.Frag} {σ : St} {H : Hp} {Q : VK} {ta : TA} {nt : Nat} {cs : List Nat} {g : TG} {tt : TT} {te : TE} : tComp (iZip2 K ta) nt cs g tt te σ H Q = (ta σ H fun vs H1 => ∃ a b xs ys, vs = [.ref a, .ref b] ∧ ((SqL K H1 a xs ∧ SqL K H1 b ys ∧ CompIt (Itz K a b) nt cs g tt te σ H1 Q) ∨ (SqT K H1 a xs ∧ SqT K H1 b ys ∧ CompIt (Itzt K a b) nt cs g tt te σ H1 Q))) := rfl
end L2
set_option Elab.async false
set_option linter.all false
set_option maxRecDepth 100000
set_option maxHeartbeats 1000000
namespace L2
open PySem PySem.Spec PyProof.Rows
structure Gt (ins : Nat) (ds : List Wd) (gs : List Go) (i : Nat) (ms : List Nat) : Prop where
  sd : ∀ x ∈ ms, Rch ins ds gs x
  rt : ∀ g ∈ gs, g.sg ≠ 0 → g.th ∈ ms
  cl : ∀ k d, ds[k]? = some d → ds.length ≤ k + i → ins + k ∈ ms → d.a ∈ ms ∧ d.b ∈ ms
  ln : ms.length ≤ gs.length + 2 * i
theorem Gt.done {ins : Nat} {ds : List Wd} {gs : List Go} {ms : List Nat} (h : Gt ins ds gs ds.length ms) (x : Nat) : x ∈ ms ↔ Rch ins ds gs x := by
  refine ⟨h.sd x, fun r => ?_⟩
  induction r with
  | root hg z => exact h.rt _ hg z
  | fst hd _ ih => exact (h.cl _ _ hd (by omega) ih).1
  | snd hd _ ih => exact (h.cl _ _ hd (by omega) ih).2
def kp (bs : List Bool) (ins j : Nat) : Prop := j < ins ∨ bs[j]? = some true
instance (bs : List Bool) (ins j : Nat) : Decidable (kp bs ins j) := by unfold kp; infer_instance
structure An (bs : List Bool) (ins m : Nat) (kvs : List (Key × V)) : Prop where
  len : kvs.length = renN bs ins m
  val : ∀ j : Nat, valV kvs (.inl (j : Int)) = if j < m ∧ kp bs ins j then some (.int (renN bs ins j : Nat)) else none
theorem An.new {bs : List Bool} {ins m : Nat} {kvs : List (Key × V)} (h : An bs ins m kvs) : valV kvs (.inl (m : Int)) = none := by rw [h.val m, if_neg (by omega)]
def ZO (gs : List Go) : Prop := ∀ g ∈ gs, g.sg = 0 → g = ⟨0, 0, 0⟩
section
variable {ins : Nat} {ds : List Wd} {gs : List Go} {bs : List Bool}
theorem rch_lt (ok : WebOk ins ds gs) {j : Nat} (h : Rch ins ds gs j) : j < ins + ds.length := by
  induction h with
  | root hg _ => exact ok.gk _ hg
  | fst hd _ ih => have := (ok.dk _ _ hd).1; omega
  | snd hd _ ih => have := (ok.dk _ _ hd).2.1; omega
theorem Us.kp (ok : WebOk ins ds gs) (U : Us ins ds gs bs) {j : Nat} (h : Rch ins ds gs j) : kp bs ins j := .inr ((U.iff j (rch_lt ok h)).mpr h)
end
def AlN (H : Hp) : Nat → V → V → Prop
  | 0, _, _ => False
  | n + 1, x, y => (∃ i, x = .int i ∧ y = .int i) ∨ (∃ i, x = .str i ∧ y = .str i) ∨
    (∃ p q xs ys, x = .ref p ∧ y = .ref q ∧ H p = some (.lst xs) ∧ H q = some (.lst ys) ∧ ys.length = xs.length ∧ xs.length ≤ 1000 ∧ ∀ (i : Nat) u v, xs[i]? = some u → ys[i]? = some v → AlN H n u v) ∨
    (∃ p q xs ys, x = .ref p ∧ y = .ref q ∧ H p = some (.tup xs) ∧ H q = some (.tup ys) ∧ ys.length = xs.length ∧ xs.length ≤ 1000 ∧ ∀ (i : Nat) u v, xs[i]? = some u → ys[i]? = some v → AlN H n u v)
theorem AlN.same {H H' : Hp} (s : Same H H') : ∀ {n : Nat} {x y : V}, AlN H n x y → AlN H' n x y
  | n + 1, x, y, h => by
    rcases h with h | h | ⟨p, q, xs, ys, e1, e2, h1, h2, h3, h4, h5⟩ | ⟨p, q, xs, ys, e1, e2, h1, h2, h3, h4, h5⟩
    · exact .inl h
    · exact .inr (.inl h)
    · exact .inr (.inr (.inl ⟨p, q, xs, ys, e1, e2, s _ _ h1, s _ _ h2, h3, h4, fun i u v a b => AlN.same s (h5 i u v a b)⟩))
    · exact .inr (.inr (.inr ⟨p, q, xs, ys, e1, e2, s _ _ h1, s _ _ h2, h3, h4, fun i u v a b => AlN.same s (h5 i u v a b)⟩))
section
variable {K : PySem.W.Frag} {σ : St} {H : Hp} {Q : VK} {cs : List Nat} {te : TE}
end
def IsWz (H : Hp) (x : V) : Prop := ∃ (w dl gl : Addr) (ins : Nat) (us : List V) (ds : List Wd) (os : List V) (gs : List Go), x = .ref w ∧ Wb H w dl gl ins us ds os gs ∧ WebOk ins ds gs ∧ ZO gs
theorem IsWz.same {H H' : Hp} {x : V} (h : IsWz H x) (s : Same H H') : IsWz H' x := by
  obtain ⟨w, dl, gl, ins, us, ds, os, gs, rfl, W, ok, zo⟩ := h
  exact ⟨w, dl, gl, ins, us, ds, os, gs, rfl, W.same s, ok, zo⟩
end L2
set_option Elab.async false
set_option linter.all false
set_option maxRecDepth 100000
set_option maxHeartbeats 1000000
namespace L2
open PySem PySem.Spec PyProof.Rows
def TrX (h : Heap) (e : Addr) (C : Value) (d : Option Addr) (T : Addr) : Prop :=
  ∃ oe vs oT ts, h.get? e = some oe ∧ oe.cls = C ∧ oe.dict = d ∧ oe.data = .fields vs ∧ vs[1]? = some (.ref T) ∧ T ≠ e ∧ h.get? T = some oT ∧ oT.data = .fields ts ∧ ts[3]? = some .none
structure Lv (fr : List Addr) (e : Addr) (C : Value) (d : Option Addr) (T : Option Addr) (h h' : Heap) : Prop where
  keep : ∀ b o, b ∉ fr → b ≠ e → some b ≠ T → h.get? b = some o → h'.get? b = some o
  slot : ∀ b o, b ∈ fr → h.get? b = some o → ∃ sl, h'.get? b = some { o with slots := sl }
  exc : TrX h' e C d h.objs.size
section
variable {M : Model} {A : Around} {E : Value → Shared → Prop} {s : Shared} {base : Heap} {env : Env} {outer : List Env} {L e : Addr} {oe : Obj} {vs : Array Value} {Q : Unit → Shared → Prop}
end
def CXe (P : Program) (w : World) (base : Heap) : CXT := fun outer H s E e s' => ∃ (x T : Addr) (C : Value) (d : Option Addr) (H' : Hp), e = .ref x ∧ s'.os = s.os ∧ AllBare s'.gens ∧ Un (frs outer) [] H H' s.heap s'.heap ∧ HOk P w H' s'.heap ∧
  TrX s'.heap x C d T ∧ s.heap.get? x = none ∧ s.heap.get? T = none ∧ H' x = none ∧ H' T = none ∧ E C d H'
section
variable {P : Program} {w : World} {K : PySem.W.Frag} {mg : Str → Option Value} {base : Heap} {N : List Str} {qual : Str} {scope : Scope} {f : Addr} {cd : Value} {A : Around} {outer : List Env} {s : Shared} {H : Hp} {E : XK}
end
structure CalX (P : Program) (w : World) (K : PySem.W.Frag) (mg : Str → Option Value) (base : Heap) (k : Nat) (x : Str) (ps : List Str) (sp : Sp) : Prop where
  ex : ∃ (f : Addr) (fd : FuncData), FnOk P w K mg base (CXe P w base) k f fd ps sp ∧ mg x = some (.ref f) ∧ PySem.W.keepIn K (.ref f) = true ∧ Binds K fd ps []
theorem CalX.mono {P : Program} {w : World} {K : PySem.W.Frag} {mg : Str → Option Value} {base : Heap} {j k : Nat} {x : Str} {ps : List Str} {sp : Sp} (C : CalX P w K mg base j x ps sp) (h : j ≤ k) : CalX P w K mg base k x ps sp := by
  obtain ⟨f, fd, a, b, c, d⟩ := C.ex
  exact ⟨f, fd, a.mono h, b, c, d⟩
section
variable {X : Cx} {k : Nat} {x : Str} {ps : List Str} {sp : Sp} {e : Expr} {es : List Expr} {t : TA} {p pos : Pos} {E : XK}
end
section
variable {P : Program} {w : World} {K : PySem.W.Frag} {mg : Str → Option Value} {base : Heap}
end
end L2
set_option Elab.async false
set_option linter.all false
set_option maxRecDepth 100000
set_option maxHeartbeats 1000000
namespace L2
open PySem PySem.Spec PyProof.Rows
theorem ObjOk.there {P : Program} {w : World} {H : Hp} {h : Heap} {a : Addr} {o : HO} (x : ObjOk P w H h a o) : ∃ u, h.get? a = some u := by
  cases o with
  | lst xs => obtain ⟨_, _, _, _, e⟩ := x; exact ⟨_, e⟩
  | tup xs => obtain ⟨_, _, _, o, e, _⟩ := x; exact ⟨_, e⟩
  | dK kvs => obtain ⟨_, _, _, _, o, _, _, e, _⟩ := x; exact ⟨_, e⟩
  | dT kvs => obtain ⟨_, _, _, _, o, _, _, e, _⟩ := x; exact ⟨_, e⟩
  | set S n => obtain ⟨o, _, _, _, e, _⟩ := x; exact ⟨_, e⟩
  | ins C dx fs => obtain ⟨_, _, _, e, _⟩ := x; exact ⟨_, e⟩
  | own y => obtain ⟨_, e⟩ := x; exact ⟨_, e⟩
  | xd fs => obtain ⟨_, ⟨_, _, _, e, _⟩, _⟩ := x; exact ⟨_, e⟩
  | rng lo hi => obtain ⟨_, _, _, e⟩ := x; exact ⟨_, e⟩
  | frz ob u => obtain ⟨e, _⟩ := x; exact ⟨_, e⟩
  | tbl ps => exact ⟨_, show h.get? a = some _ from x⟩
  | met f y => exact ⟨_, show h.get? a = some _ from x⟩
  | ext φ => obtain ⟨_, ⟨_, e⟩, _⟩ := x; exact ⟨_, e⟩
section
variable {M : Model} {A : Around} {E : Value → Shared → Prop}
end
end L2
set_option Elab.async false
set_option linter.all false
set_option maxRecDepth 100000
set_option maxHeartbeats 1000000
namespace L2
open PySem PySem.Spec PyProof.Rows
def XP (X : Cx) (pins : List (Addr × Obj)) (σ : St) (E : XK) (e : Value) (s' : Shared) : Prop := ∃ (x T : Addr) (C : Value) (d : Option Addr) (H' : Hp), e = .ref x ∧ Inv X pins σ H' s' ∧ TrX s'.heap x C d T ∧
  (X.s₀.heap.get? x = none ∧ X.s₀.heap.get? T = none) ∧ (∀ p ∈ X.pn ++ pins, p.1 ≠ x ∧ p.1 ≠ T) ∧ H' x = none ∧ H' T = none ∧ E C d H'
structure LvK (fr : List Addr) (e : Addr) (T : Addr) (h h' : Heap) : Prop where
  keep : ∀ b o, b ∉ fr → b ≠ e → some b ≠ some T → h.get? b = some o → h'.get? b = some o
  slot : ∀ b o, b ∈ fr → h.get? b = some o → ∃ sl, h'.get? b = some { o with slots := sl }
theorem Lv.k {fr : List Addr} {e T : Addr} {C : Value} {d : Option Addr} {h h' : Heap} (l : Lv fr e C d (some T) h h') : LvK fr e T h h' := ⟨l.keep, l.slot⟩
end L2
set_option Elab.async false
set_option linter.all false
set_option maxRecDepth 100000
set_option maxHeartbeats 1000000
namespace L2
open PySem PySem.Spec PyProof.Rows
end L2
set_option Elab.async false
set_option linter.all false
set_option maxRecDepth 100000
set_option maxHeartbeats 1000000
namespace L2
open PySem PySem.Spec PyProof.Rows
section
variable {prog : Program} {w : World} {A : Around} {E : Value → Shared → Prop} {s : Shared} {K : PySem.W.Frag} {x D : Addr} {o : Obj}
end
end L2
set_option Elab.async false
set_option linter.all false
set_option maxRecDepth 100000
set_option maxHeartbeats 1000000
namespace L2
open PySem PySem.Spec PyProof.Rows
theorem PS.nox {X : Cx} {st : Stmt} {t : TS} (h : PS X.nox st t) : PS X st t := fun pins s σ H D I hw =>
  wpAny_mono (h pins s σ H D (I.wish _) hw) (fun _ _ q => q.unwish) fun _ _ z => False.elim z
end L2
set_option Elab.async false
set_option linter.all false
set_option maxRecDepth 100000
set_option maxHeartbeats 1000000
namespace L2
open PySem PySem.Spec
def PPen (H : Hp) (p a : Addr) (c : Int) : Prop := ∃ t l : Int, H p = some (.lst [.int l, .int t, .ref a]) ∧ 0 ≤ t ∧ t ≤ c ∧ 0 ≤ l
theorem PPen.mono {H : Hp} {p a : Addr} {c d : Int} (h : PPen H p a c) (l : c ≤ d) : PPen H p a d := by
  obtain ⟨t, x, e, h0, h1, h2⟩ := h
  exact ⟨t, x, e, h0, by omega, h2⟩
theorem PPen.same {H H' : Hp} {p a : Addr} {c : Int} (h : PPen H p a c) (s : Same H H') : PPen H' p a c := by
  obtain ⟨t, x, e, r⟩ := h
  exact ⟨t, x, s _ _ e, r⟩
theorem PPen.lst {H : Hp} {p a : Addr} {c : Int} (h : PPen H p a c) : ∃ xs, H p = some (.lst xs) := by
  obtain ⟨t, x, e, r⟩ := h
  exact ⟨_, e⟩
theorem PPen.ne {H : Hp} {p a q : Addr} {c : Int} (h : PPen H p a c) (hq : H q = none) : q ≠ p := by
  obtain ⟨xs, h⟩ := h.lst
  exact (ne_of_none h hq).symm
theorem PPen.chg {H H' : Hp} {p a q : Addr} {c : Int} (h : PPen H p a c) (n : p ≠ q) (s : Chg q H H') : PPen H' p a c := by
  obtain ⟨t, x, e, r⟩ := h
  exact ⟨t, x, s _ _ n e, r⟩
end L2
set_option Elab.async false
set_option linter.all false
set_option maxRecDepth 100000
set_option maxHeartbeats 1000000
namespace L2
open PySem PySem.Spec
structure DKR (H : Hp) (kvs : List (Key × V)) (fd : List (Int × Int)) : Prop where
  len : kvs.length = fd.length
  no : ∀ c, fd.lookup c = none → valV kvs (.inl c) = none
  at_ : ∀ c k, fd.lookup c = some k → ∃ r, valV kvs (.inl c) = some (.ref r) ∧ H r = some (.tup [.int k, .int 0, .int 1])
theorem DKR.nil {H : Hp} : DKR H [] [] := ⟨rfl, fun _ _ => rfl, fun _ _ z => by cases z⟩
theorem DKR.same {H H' : Hp} {kvs : List (Key × V)} {fd : List (Int × Int)} (h : DKR H kvs fd) (s : Same H H') : DKR H' kvs fd := ⟨h.len, h.no, fun c k e => by
  obtain ⟨r, e1, e2⟩ := h.at_ c k e
  exact ⟨r, e1, s _ _ e2⟩⟩
theorem DKR.chgL {H H' : Hp} {kvs : List (Key × V)} {fd : List (Int × Int)} {l : Addr} {us : List V} (h : DKR H kvs fd) (hl : H l = some (.lst us)) (s : Chg l H H') : DKR H' kvs fd := ⟨h.len, h.no, fun c k e => by
  obtain ⟨r, e1, e2⟩ := h.at_ c k e
  exact ⟨r, e1, s _ _ (ne_of e2 hl (by intro z; cases z)) e2⟩⟩
theorem DKR.chgD {H H' : Hp} {kvs ks : List (Key × V)} {fd : List (Int × Int)} {l : Addr} (h : DKR H kvs fd) (hl : H l = some (.dK ks)) (s : Chg l H H') : DKR H' kvs fd := ⟨h.len, h.no, fun c k e => by
  obtain ⟨r, e1, e2⟩ := h.at_ c k e
  exact ⟨r, e1, s _ _ (ne_of e2 hl (by intro z; cases z)) e2⟩⟩
theorem DKR.put {H : Hp} {kvs : List (Key × V)} {fd : List (Int × Int)} {c k : Int} {r : Addr} (h : DKR H kvs fd) (hn : fd.lookup c = none) (hr : H r = some (.tup [.int k, .int 0, .int 1])) : DKR H (putK kvs (.inl c) (.ref r)) (fd ++ [(c, k)]) := by
  have e := h.no c hn
  refine ⟨?_, fun d hd => ?_, fun d m hd => ?_⟩
  · rw [putK_new _ e, List.length_append, List.length_append, h.len]
    rfl
  · rw [lk_app] at hd
    by_cases z : d = c
    · rw [if_pos z] at hd
      cases h2 : fd.lookup d <;> rw [h2] at hd <;> cases hd
    · rw [if_neg z] at hd
      rw [valV_put, if_neg (fun y => z (Sum.inl.inj y))]
      refine h.no d ?_
      cases h2 : fd.lookup d with
      | none => rfl
      | some x => rw [h2] at hd; cases hd
  · rw [lk_app] at hd
    by_cases z : d = c
    · subst z
      rw [hn, if_pos rfl] at hd
      cases hd
      exact ⟨r, by rw [valV_put, if_pos rfl], hr⟩
    · rw [if_neg z] at hd
      rw [valV_put, if_neg (fun y => z (Sum.inl.inj y))]
      refine h.at_ d m ?_
      cases h2 : fd.lookup d with
      | none => rw [h2] at hd; cases hd
      | some x => rw [h2] at hd; exact hd
def spOutP (K : PySem.W.Frag) : Sp := fun vs H Q _ => ∃ (n : Int) (t : Addr) (kvs : List (Key × V)) (fd : List (Int × Int)) (ns : List Int), vs = [.int n, .ref t] ∧ H t = some (.dK kvs) ∧ DKR H kvs fd ∧ n.natAbs < 2 ^ 200 ∧ (n ≠ 0 → ∃ k : Nat, fd.lookup (coreN n) = some (k : Int) ∧ ns[k]? = some (coreN n)) ∧
  ∀ (r : Addr) (a b c : Int) H', SqT K H' r [.int a, .int b, .int c] → OutOk ns n a b c → (n ≠ 0 → fd.lookup (coreN n) = some a) → Same H H' → Q (.ref r) H'
def spMovedP (K : PySem.W.Frag) : Sp := fun vs H Q _ => ∃ (p : Addr) (a b c s g : Int), vs = [.ref p, .int s, .int g] ∧ H p = some (.tup [.int a, .int b, .int c]) ∧ c * g ≠ 0 ∧ (-(2 ^ 64) < c) ∧ c < 2 ^ 64 ∧
  ∀ (r : Addr), H r = none → Q (.ref r) (upd H r (.tup [.int a, .int (b + s), .int (c * g)]))
end L2
set_option Elab.async false
set_option linter.all false
set_option maxRecDepth 100000
set_option maxHeartbeats 1000000
namespace L2
open PySem PySem.Spec
def Sh1 (s x : Int) : Prop := -40 ≤ s ∧ s ≤ 40 ∧ (s < 0 → (2 : Int) ^ (-s).toNat ∣ x)
def valD (vs : List Int) (d : Wd) : Int := mvI d.s (vs.getD d.a 0) + sgW d.w * mvI d.t (vs.getD d.b 0)
def valsW (xs : List Int) (ds : List Wd) : List Int := ds.foldl (fun vs d => vs ++ [valD vs d]) xs
structure VOk (xs : List Int) (ds : List Wd) : Prop where
  dk : ∀ (k : Nat) (d : Wd), ds[k]? = some d → d.a < xs.length + k ∧ d.b < xs.length + k ∧ Sh1 d.s ((valsW xs ds).getD d.a 0) ∧ Sh1 d.t ((valsW xs ds).getD d.b 0)
  vb : ∀ v ∈ valsW xs ds, v.natAbs < 2 ^ 9000
  xl : xs.length ≤ 12
  dl : ds.length ≤ 60
end L2
end

section
set_option Elab.async false
set_option linter.all false
set_option maxRecDepth 100000
set_option maxHeartbeats 4000000
namespace Law
open PySem L2
def top (i : Nat) : Stmt := PySem.Challenge.pw_shiftsums_k23_deep_rows.main.body.getD i (.Pass ⟨0, 0, 0, 0⟩)
abbrev s_core : Stmt := top 1
theorem sc_core : FnScope ["number", "size", "shift", "sign"] ["number"] (defScope s_core) := ⟨rfl, rfl, rfl, by decide +kernel, rfl, by decide +kernel, by decide +kernel⟩
abbrev s_moved : Stmt := top 4
theorem sc_moved : FnScope ["part", "shift", "sign"] ["part", "shift", "sign"] (defScope s_moved) := ⟨rfl, rfl, rfl, by decide +kernel, rfl, by decide +kernel, by decide +kernel⟩
abbrev s_deed_of : Stmt := top 5
theorem sc_deed_of : FnScope ["one", "other"] ["one", "other"] (defScope s_deed_of) := ⟨rfl, rfl, rfl, by decide +kernel, rfl, by decide +kernel, by decide +kernel⟩
abbrev s_sign_of : Stmt := top 6
theorem sc_sign_of : FnScope ["one", "other"] ["one", "other"] (defScope s_sign_of) := ⟨rfl, rfl, rfl, by decide +kernel, rfl, by decide +kernel, by decide +kernel⟩
abbrev s_out_for : Stmt := top 7
theorem sc_out_for : FnScope ["number", "parts", "found"] ["number", "parts"] (defScope s_out_for) := ⟨rfl, rfl, rfl, by decide +kernel, rfl, by decide +kernel, by decide +kernel⟩
abbrev s_signs : Stmt := top 9
theorem sc_signs : FnScope ["number", "digits", "rest", "digit"] ["number"] (defScope s_signs) := ⟨rfl, rfl, rfl, by decide +kernel, rfl, by decide +kernel, by decide +kernel⟩
abbrev s_first_sign : Stmt := top 10
theorem sc_first_sign : FnScope ["number"] ["number"] (defScope s_first_sign) := ⟨rfl, rfl, rfl, by decide +kernel, rfl, by decide +kernel, by decide +kernel⟩
abbrev s_deep : Stmt := top 12
theorem sc_deep : FnScope ["numbers", "deeds", "parts", "odd"] ["numbers"] (defScope s_deep) := ⟨rfl, rfl, rfl, by decide +kernel, rfl, by decide +kernel, by decide +kernel⟩
abbrev s_unlike_cores : Stmt := top 13
theorem sc_unlike_cores : FnScope ["numbers", "found", "number"] ["numbers"] (defScope s_unlike_cores) := ⟨rfl, rfl, rfl, by decide +kernel, rfl, by decide +kernel, by decide +kernel⟩
abbrev s_add_tree : Stmt := top 14
theorem sc_add_tree : FnScope ["deeds", "odd", "parts"] ["deeds", "odd"] (defScope s_add_tree) := ⟨rfl, rfl, rfl, by decide +kernel, rfl, by decide +kernel, by decide +kernel⟩
abbrev s_paired : Stmt := top 15
theorem sc_paired : FnScope ["deeds", "parts", "told", "place", "low", "high", "first", "second"] ["deeds", "parts"] (defScope s_paired) := ⟨rfl, rfl, rfl, by decide +kernel, rfl, by decide +kernel, by decide +kernel⟩
abbrev s_l_pen : Stmt := top 17
theorem sc_l_pen : FnScope ["_law_script"] ["_law_script"] (defScope s_l_pen) := ⟨rfl, rfl, rfl, by decide +kernel, rfl, by decide +kernel, by decide +kernel⟩
abbrev s_l_draw : Stmt := top 18
theorem sc_l_draw : FnScope ["_law_pen_here", "_law_many", "_law_digit", "_law_script", "_law_at", "_law_cell", "_law_number_here"] ["_law_pen_here", "_law_many"] (defScope s_l_draw) := ⟨rfl, rfl, rfl, by decide +kernel, rfl, by decide +kernel, by decide +kernel⟩
abbrev s_l_any : Stmt := top 19
theorem sc_l_any : FnScope ["_law_pen_here", "_law_size", "_law_number_here", "_law_k"] ["_law_pen_here", "_law_size"] (defScope s_l_any) := ⟨rfl, rfl, rfl, by decide +kernel, rfl, by decide +kernel, by decide +kernel⟩
abbrev s_l_number : Stmt := top 20
theorem sc_l_number : FnScope ["_law_pen_here", "_law_way", "_law_size", "_law_small", "_law_number_here", "_law_k", "_law_wide"] ["_law_pen_here"] (defScope s_l_number) := ⟨rfl, rfl, rfl, by decide +kernel, rfl, by decide +kernel, by decide +kernel⟩
abbrev s_l_whole : Stmt := top 21
theorem sc_l_whole : FnScope ["_law_thing"] ["_law_thing"] (defScope s_l_whole) := ⟨rfl, rfl, rfl, by decide +kernel, rfl, by decide +kernel, by decide +kernel⟩
abbrev s_l_signs : Stmt := top 22
theorem sc_l_signs : FnScope ["_law_number_here", "_law_size", "_law_found", "_law_place"] ["_law_number_here"] (defScope s_l_signs) := ⟨rfl, rfl, rfl, by decide +kernel, rfl, by decide +kernel, by decide +kernel⟩
abbrev s_l_least : Stmt := top 23
theorem sc_l_least : FnScope ["_law_number_here"] ["_law_number_here"] (defScope s_l_least) := ⟨rfl, rfl, rfl, by decide +kernel, rfl, by decide +kernel, by decide +kernel⟩
abbrev s_l_shifted : Stmt := top 24
theorem sc_l_shifted : FnScope ["_law_number_here", "_law_shift"] ["_law_number_here", "_law_shift"] (defScope s_l_shifted) := ⟨rfl, rfl, rfl, by decide +kernel, rfl, by decide +kernel, by decide +kernel⟩
abbrev s_l_is_thing : Stmt := top 25
theorem sc_l_is_thing : FnScope ["_law_thing", "_law_some"] ["_law_thing", "_law_some"] (defScope s_l_is_thing) := ⟨rfl, rfl, rfl, by decide +kernel, rfl, by decide +kernel, by decide +kernel⟩
abbrev s_l_deed : Stmt := top 26
theorem sc_l_deed : FnScope ["_law_deed_here", "_law_some", "_law_one", "_law_other"] ["_law_deed_here", "_law_some"] (defScope s_l_deed) := ⟨rfl, rfl, rfl, by decide +kernel, rfl, by decide +kernel, by decide +kernel⟩
abbrev s_l_out : Stmt := top 27
theorem sc_l_out : FnScope ["_law_out_here", "_law_some"] ["_law_out_here", "_law_some"] (defScope s_l_out) := ⟨rfl, rfl, rfl, by decide +kernel, rfl, by decide +kernel, by decide +kernel⟩
abbrev s_l_walked : Stmt := top 28
theorem sc_l_walked : FnScope ["_law_web", "_law_some", "_law_deed_here", "_law_number_here", "_law_outs"] ["_law_web"] (defScope s_l_walked) := ⟨rfl, rfl, rfl, by decide +kernel, rfl, by decide +kernel, by decide +kernel⟩
abbrev s_l_numbers : Stmt := top 29
theorem sc_l_numbers : FnScope ["_law_pen_here", "_law_found", "_law_k", "_law_way", "_law_number_here"] ["_law_pen_here"] (defScope s_l_numbers) := ⟨rfl, rfl, rfl, by decide +kernel, rfl, by decide +kernel, by decide +kernel⟩
abbrev s_l_bound : Stmt := top 30
theorem sc_l_bound : FnScope ["_law_due"] ["_law_due"] (defScope s_l_bound) := ⟨rfl, rfl, rfl, by decide +kernel, rfl, by decide +kernel, by decide +kernel⟩
abbrev s_l_least_depth : Stmt := top 31
theorem sc_l_least_depth : FnScope ["_law_due", "_law_few", "_law_d"] ["_law_due"] (defScope s_l_least_depth) := ⟨rfl, rfl, rfl, by decide +kernel, rfl, by decide +kernel, by decide +kernel⟩
abbrev s_l_depth : Stmt := top 32
theorem sc_l_depth : FnScope ["_law_web", "_law_some", "_law_word", "_law_a", "_law_s", "_law_b", "_law_t"] ["_law_web"] (defScope s_l_depth) := ⟨rfl, rfl, rfl, by decide +kernel, rfl, by decide +kernel, by decide +kernel⟩
abbrev s_l_right : Stmt := top 33
theorem sc_l_right : FnScope ["_law_web", "_law_due", "_law_found"] ["_law_web", "_law_due"] (defScope s_l_right) := ⟨rfl, rfl, rfl, by decide +kernel, rfl, by decide +kernel, by decide +kernel⟩
abbrev s_law : Stmt := top 34
theorem sc_law : FnScope ["_law_script", "_law_pen_here", "_law_turn", "_law_due", "_law_handed", "_law_web"] ["_law_script"] (defScope s_law) := ⟨rfl, rfl, rfl, by decide +kernel, rfl, by decide +kernel, by decide +kernel⟩
structure Bl (mg : Str → Option Value) : Prop where
  abs : mg "abs" = none
  all : mg "all" = none
  bool : mg "bool" = none
  enumerate : mg "enumerate" = none
  int : mg "int" = none
  isinstance : mg "isinstance" = none
  len : mg "len" = none
  list : mg "list" = none
  max : mg "max" = none
  range : mg "range" = none
  sum : mg "sum" = none
  tuple : mg "tuple" = none
structure Txt (K : PySem.W.Frag) (mg : Str → Option Value) : Prop where
  bl : Bl mg
  t_core : ∃ (f : Addr) (fd : FuncData), Fun K "core" "core" s_core f fd ∧ mg "core" = some (.ref f) ∧ Binds K fd ["number"] []
  t_moved : ∃ (f : Addr) (fd : FuncData), Fun K "moved" "moved" s_moved f fd ∧ mg "moved" = some (.ref f) ∧ Binds K fd ["part", "shift", "sign"] []
  t_deed_of : ∃ (f : Addr) (fd : FuncData), Fun K "deed_of" "deed_of" s_deed_of f fd ∧ mg "deed_of" = some (.ref f) ∧ Binds K fd ["one", "other"] []
  t_sign_of : ∃ (f : Addr) (fd : FuncData), Fun K "sign_of" "sign_of" s_sign_of f fd ∧ mg "sign_of" = some (.ref f) ∧ Binds K fd ["one", "other"] []
  t_out_for : ∃ (f : Addr) (fd : FuncData), Fun K "out_for" "out_for" s_out_for f fd ∧ mg "out_for" = some (.ref f) ∧ Binds K fd ["number", "parts"] []
  t_signs : ∃ (f : Addr) (fd : FuncData), Fun K "signs" "signs" s_signs f fd ∧ mg "signs" = some (.ref f) ∧ Binds K fd ["number"] []
  t_first_sign : ∃ (f : Addr) (fd : FuncData), Fun K "first_sign" "first_sign" s_first_sign f fd ∧ mg "first_sign" = some (.ref f) ∧ Binds K fd ["number"] []
  t_deep : ∃ (f : Addr) (fd : FuncData), Fun K "deep" "deep" s_deep f fd ∧ mg "deep" = some (.ref f) ∧ Binds K fd ["numbers"] []
  t_unlike_cores : ∃ (f : Addr) (fd : FuncData), Fun K "unlike_cores" "unlike_cores" s_unlike_cores f fd ∧ mg "unlike_cores" = some (.ref f) ∧ Binds K fd ["numbers"] []
  t_add_tree : ∃ (f : Addr) (fd : FuncData), Fun K "add_tree" "add_tree" s_add_tree f fd ∧ mg "add_tree" = some (.ref f) ∧ Binds K fd ["deeds", "odd"] []
  t_paired : ∃ (f : Addr) (fd : FuncData), Fun K "paired" "paired" s_paired f fd ∧ mg "paired" = some (.ref f) ∧ Binds K fd ["deeds", "parts"] []
  t_l_pen : ∃ (f : Addr) (fd : FuncData), Fun K "_law_pen" "_law_pen" s_l_pen f fd ∧ mg "_law_pen" = some (.ref f) ∧ Binds K fd ["_law_script"] []
  t_l_draw : ∃ (f : Addr) (fd : FuncData), Fun K "_law_draw" "_law_draw" s_l_draw f fd ∧ mg "_law_draw" = some (.ref f) ∧ Binds K fd ["_law_pen_here", "_law_many"] []
  t_l_any : ∃ (f : Addr) (fd : FuncData), Fun K "_law_any" "_law_any" s_l_any f fd ∧ mg "_law_any" = some (.ref f) ∧ Binds K fd ["_law_pen_here", "_law_size"] []
  t_l_number : ∃ (f : Addr) (fd : FuncData), Fun K "_law_number" "_law_number" s_l_number f fd ∧ mg "_law_number" = some (.ref f) ∧ Binds K fd ["_law_pen_here"] []
  t_l_whole : ∃ (f : Addr) (fd : FuncData), Fun K "_law_whole" "_law_whole" s_l_whole f fd ∧ mg "_law_whole" = some (.ref f) ∧ Binds K fd ["_law_thing"] []
  t_l_signs : ∃ (f : Addr) (fd : FuncData), Fun K "_law_signs" "_law_signs" s_l_signs f fd ∧ mg "_law_signs" = some (.ref f) ∧ Binds K fd ["_law_number_here"] []
  t_l_least : ∃ (f : Addr) (fd : FuncData), Fun K "_law_least" "_law_least" s_l_least f fd ∧ mg "_law_least" = some (.ref f) ∧ Binds K fd ["_law_number_here"] []
  t_l_shifted : ∃ (f : Addr) (fd : FuncData), Fun K "_law_shifted" "_law_shifted" s_l_shifted f fd ∧ mg "_law_shifted" = some (.ref f) ∧ Binds K fd ["_law_number_here", "_law_shift"] []
  t_l_is_thing : ∃ (f : Addr) (fd : FuncData), Fun K "_law_is_thing" "_law_is_thing" s_l_is_thing f fd ∧ mg "_law_is_thing" = some (.ref f) ∧ Binds K fd ["_law_thing", "_law_some"] []
  t_l_deed : ∃ (f : Addr) (fd : FuncData), Fun K "_law_deed" "_law_deed" s_l_deed f fd ∧ mg "_law_deed" = some (.ref f) ∧ Binds K fd ["_law_deed_here", "_law_some"] []
  t_l_out : ∃ (f : Addr) (fd : FuncData), Fun K "_law_out" "_law_out" s_l_out f fd ∧ mg "_law_out" = some (.ref f) ∧ Binds K fd ["_law_out_here", "_law_some"] []
  t_l_walked : ∃ (f : Addr) (fd : FuncData), Fun K "_law_walked" "_law_walked" s_l_walked f fd ∧ mg "_law_walked" = some (.ref f) ∧ Binds K fd ["_law_web"] []
  t_l_numbers : ∃ (f : Addr) (fd : FuncData), Fun K "_law_numbers" "_law_numbers" s_l_numbers f fd ∧ mg "_law_numbers" = some (.ref f) ∧ Binds K fd ["_law_pen_here"] []
  t_l_bound : ∃ (f : Addr) (fd : FuncData), Fun K "_law_bound" "_law_bound" s_l_bound f fd ∧ mg "_law_bound" = some (.ref f) ∧ Binds K fd ["_law_due"] []
  t_l_least_depth : ∃ (f : Addr) (fd : FuncData), Fun K "_law_least_depth" "_law_least_depth" s_l_least_depth f fd ∧ mg "_law_least_depth" = some (.ref f) ∧ Binds K fd ["_law_due"] []
  t_l_depth : ∃ (f : Addr) (fd : FuncData), Fun K "_law_depth" "_law_depth" s_l_depth f fd ∧ mg "_law_depth" = some (.ref f) ∧ Binds K fd ["_law_web"] []
  t_l_right : ∃ (f : Addr) (fd : FuncData), Fun K "_law_right" "_law_right" s_l_right f fd ∧ mg "_law_right" = some (.ref f) ∧ Binds K fd ["_law_web", "_law_due"] []
  t_law : ∃ (f : Addr) (fd : FuncData), Fun K "law" "law" s_law f fd ∧ mg "law" = some (.ref f) ∧ Binds K fd ["_law_script"] []
  c_NO_OUT : ∃ t : Addr, mg "NO_OUT" = some (.ref t) ∧ CT0 K t
local macro_rules | `(tactic| walk_at "WP") => `(tactic| simp only [w_gLst, w_forE, w_compE, w_compZ, w_for3, w_gTupK, w_ixT, w_eqS, w_aug, w_ipI, w_dnK, w_maxD, w_sl, w_noPart, w_part, w_slL, w_var, w_C, w_op, w_un, w_rI, w_rI0, w_rU, w_eqI, w_neI, w_eqB, w_neB, w_seq, w_next, w_break, w_cont, w_ifS, w_ret, w_retN, w_drop, w_asg, w_gName, w_gSub, w_test, w_B, w_and, w_or, w_not, w_andV, w_orV, w_notV, w_if, w_call, w_nil, w_cons, w_CB, w_lst, w_tup, w_isN, w_notN, w_chain, w_for1, w_for2b, w_On2, w_forL, w_forT, w_forV, w_compL, w_compT, w_comp1, w_comp2b, w_yes, w_bm, w_bm0, w_rBits, w_tyInt, w_gTupM, w_gCons, w_gNil, w_dgS, w_dgI, w_sDP, w_dpS, w_dpI, w_dII, w_disp, tPairs, pen_s, pen_a, pen_l, pen_len, pen_pa, pen_pl, HO.dK.injEq, w_append, List.getElem?_cons_zero, List.getElem?_cons_succ, List.set_cons_zero, List.set_cons_succ, Option.some.injEq, V.int.injEq, V.bl.injEq, V.ref.injEq, V.str.injEq, exists_eq_left', exists_eq_left, List.append_nil, List.cons.injEq, and_true, true_and, exists_and_left, decide_eq_true_eq, Bool.not_eq_true', decide_eq_false_iff_not, Bool.not_true, Bool.not_false, w_ixM, w_ixU, w_ixL, w_setL, w_cxK, w_isI_ii, w_isI_ib, w_isI_bi, w_isI_bb, w_isI_ni, w_isI_nb, w_isI_si, w_isI_sb, sl_0, sl_1, sl_2, sl_3, sl_4, sl_5, sl_6, sl_7, sl_8, CPowB, w_shl1, at_0, at_1, at_2, at_3, ixN_0, ixN_1, ixN_2, upd_same, HO.lst.injEq, HO.tup.injEq, Int.reduceToNat, Int.reducePow, Int.reduceNeg, Int.reduceLT, Int.reduceLE, Int.reduceMod, Int.reduceMul, Int.reduceAdd, Int.reduceSub, Int.reduceDiv, Int.reduceEq, ite_true, ite_false, if_true, if_false, Bool.true_eq_false, Bool.false_eq_true, List.length_cons, List.length_nil, reduceCtorEq, false_and, and_false, not_false_eq_true, not_true_eq_false, exists_false, false_or, or_false, w_pop, w_extend, w_reverse, w_clear, w_cat, w_LZ, w_LR, w_forD, w_compZ2])
section
variable {P : Program} {w : World} {K : PySem.W.Frag} {mg : Str → Option Value} {base : Heap}
theorem ok_pen (T : Txt K mg) : Cal P w K mg base 1 "_law_pen" ["_law_script"] (spPen K) := by
  have B := T.bl
  refine mkCal T.t_l_pen sc_l_pen (fun vs H Q E h => ?_) (fun f cdv A outer s H vs Q E hr h => ?_)
  · obtain ⟨a, rfl, _⟩ := h
    rfl
  obtain ⟨a, rfl, q⟩ := h
  refine ⟨_, (pss_one (ps_ret (pe_disp (pps_cons pe_str (pv 0) (pps_cons pe_str pe_int (pps_cons pe_str pe_int pps_nil))) rfl rfl (by simp) (by decide)))), ?_⟩
  rw [show start ["_law_script"] [.ref a] = [some (.ref a)] from rfl]
  try walk_at "WP"
  intro p hp
  refine ⟨penKV a 0 0, rfl, (by show 3 ≤ 15; decide), ?_⟩
  rw [pen_mk, upd_upd]
  exact q p _ hp (same_new hp _) (pen_of (by decide) (by decide) (by decide))
theorem ok_draw (T : Txt K mg) : Cal P w K mg base 1 "_law_draw" ["_law_pen_here", "_law_many"] (spDraw K) := by
  have B := T.bl
  refine mkCal T.t_l_draw sc_l_draw (fun vs H Q E h => ?_) (fun f cdv A outer s H vs Q E hr h => ?_)
  · obtain ⟨p, a, ns, m, c, rfl, _⟩ := h
    rfl
  obtain ⟨p, a, ns, m, c_, rfl, hP, hS, h63, hc, h1, h2, q⟩ := h
  refine ⟨_, (pss_cons (ps_if (pt_cmpR op_gt (pe_dgM (hu_of hr) (pv 0) pe_str (fun _ _ => rfl)) pe_int (nomark _)) (pss_cons (ps_set (i := 2) sc_l_draw.nd rfl (by first | exact Or.inl rfl | exact Or.inr rfl) (pe_op op_mod (pe_dgM (hu_of hr) (pv 0) pe_str (fun _ _ => rfl)) (pv 1)))
    (pss_cons (ps_dpM (hu_of hr) (pv 0) pe_str (pe_op op_fdivB (pe_dgM (hu_of hr) (pv 0) pe_str (fun _ _ => rfl)) (pv 1)) rfl)
    (pss_one (ps_ret (pv 2))))) pss_nil)
    (pss_cons (ps_set (i := 3) sc_l_draw.nd rfl (by first | exact Or.inl rfl | exact Or.inr rfl) (pe_dgM (hu_of hr) (pv 0) pe_str (fun _ _ => rfl)))
    (pss_cons (ps_set (i := 4) sc_l_draw.nd rfl (by first | exact Or.inl rfl | exact Or.inr rfl) (pe_dgM (hu_of hr) (pv 0) pe_str (fun _ _ => rfl)))
    (pss_cons (ps_dpM (hu_of hr) (pv 0) pe_str (pe_op op_add (pv 4) pe_int) rfl)
    (pss_cons (ps_set (i := 5) sc_l_draw.nd rfl (by first | exact Or.inl rfl | exact Or.inr rfl) (pe_op op_add (pe_op op_mulB pe_int (pv 4)) pe_int))
    (pss_mid (ps_if (pt_cmpR (op_neD hr) (pv 3) (pe_lst pa_nil) (nomark _)) (pss_one (ps_set (i := 5) sc_l_draw.nd rfl (by first | exact Or.inl rfl | exact Or.inr rfl) (pe_ix ix_list (pv 3) (pe_op op_mod (pv 4) (pe_callB call_lenS rfl B.len bo_len (pa_cons (pv 3) pa_nil))) (fun _ _ => rfl)))) pss_nil)
    (pss_cons (ps_if (PW.pt (pw_and (pt_cmpR op_lt (pv 4) (pe_callB call_lenS rfl B.len bo_len (pa_cons (pv 3) pa_nil)) (nomark _)) (pw_and1 (pt_cmpR op_ge (pe_callB call_abs rfl B.abs bo_abs (pa_cons (pv 5) pa_nil)) (pe_op op_powB pe_int pe_int) (nomark _))))) (pss_cons (ps_dpM (hu_of hr) (pv 0) pe_str (pe_op op_fdivB (pe_callB call_abs rfl B.abs bo_abs (pa_cons (pv 5) pa_nil)) (pv 1)) rfl)
    (pss_one (ps_ret (pe_op op_mod (pe_callB call_abs rfl B.abs bo_abs (pa_cons (pv 5) pa_nil)) (pv 1))))) pss_nil)
    (pss_cons (ps_set (i := 6) sc_l_draw.nd rfl (by first | exact Or.inl rfl | exact Or.inr rfl) (pe_op op_mod (pe_op op_mulB (pe_op op_add (pe_op op_add (pe_op op_mod (pv 5) pe_int) (pe_op op_mulB pe_int (pv 4))) pe_int) pe_int) pe_int))
    (pss_cons (ps_set (i := 6) sc_l_draw.nd rfl (by first | exact Or.inl rfl | exact Or.inr rfl) (pe_op op_mod (pe_op op_add (pe_op op_add (pe_op op_mulB (pv 6) (pv 6)) (pe_op op_mulB pe_int (pv 6))) (pv 4)) pe_int))
    (pss_one (ps_ret (pe_op op_mod (pe_op op_fdivB (pv 6) pe_int) (pv 1))))))))))))), ?_⟩
  rw [show start ["_law_pen_here", "_law_many", "_law_digit", "_law_script", "_law_at", "_law_cell", "_law_number_here"] [.ref p, .int m] = [some (.ref p), some (.int m), none, none, none, none, none] from rfl]
  obtain ⟨t, l, hH, ht0, htc, hl⟩ := id hP
  (iterate 5 ((try (walk_at "WP")); (try (simp only [hH, Option.some.injEq, HO.tup.injEq, HO.lst.injEq, HO.dK.injEq, exists_eq_left', exists_eq_left])))); (try (walk_at "WP"))
  refine ite2 (fun c => ?_) (fun c => ?_)
  · exact ⟨by omega, divB (by omega) h2, q _ _ (modq (by omega)).1 (modq (by omega)).2 (pen_of ht0 (by omega) (divq hl (by omega))) (hS.pen hP (Chg.upd _)) (Chg.upd _)⟩
  refine ⟨mul_l (by decide) (by decide), ?_⟩
  have hS1 := hS.pen hP (Chg.upd (.dK (penKV a (t + 1) l)))
  have hP1 : Pen (upd H p (.dK (penKV a (t + 1) l))) p a (c_ + 1) := pen_of (by omega) (by omega) hl
  have C1 : Chg p H (upd H p (.dK (penKV a (t + 1) l))) := Chg.upd _
  have hp1 : (upd H p (.dK (penKV a (t + 1) l))) p = some (.dK (penKV a (t + 1) l)) := upd_same
  generalize upd H p (.dK (penKV a (t + 1) l)) = H1 at *
  refine mid_of (fun σ H2 => ∃ (cell : Int) (o6 : Option V), σ = [some (.ref p), some (.int m), none, some (.ref a), some (.int t), some (.int cell), o6] ∧ o6 = none ∧ Same H1 H2) (fun N hN => ?_) ?_
  · try walk_at "WP"
    intro e he
    have sm := same_new he (.lst [])
    refine neLI (ms := []) (hS1.same sm).sq (SqL.of upd_same) ?_
    try walk_at "WP"
    generalize upd H1 e (.lst []) = H2 at sm ⊢
    refine ite2 (fun z => ?_) (fun z => ?_)
    · have hne : 0 < ns.length := List.length_pos_iff.mpr z
      refine ⟨_, (hS1.same sm).sq, by rw [List.length_map]; omega, _, (hS1.same sm).sq, ?_⟩
      rw [List.length_map]
      have b := modq (g := t) (m := (ns.length : Int)) (by omega)
      obtain ⟨v, hv, _⟩ := atI_int (ns := ns) b.1 b.2
      exact ⟨_, hv, hN _ _ ⟨v, _, rfl, rfl, sm⟩⟩
    · exact hN _ _ ⟨_, _, rfl, rfl, sm⟩
  · rintro σ H2 ⟨cell, o6, rfl, rfl, sm⟩
    have hS2 := hS1.same sm
    have hP2 := hP1.same sm
    have hp2 := sm _ _ hp1
    have C2 : Chg p H H2 := C1.trans sm.chg
    (iterate 5 ((try (walk_at "WP")); (try (simp only [hp2, Option.some.injEq, HO.tup.injEq, HO.lst.injEq, HO.dK.injEq, exists_eq_left', exists_eq_left])))); (try (walk_at "WP"))
    refine ⟨_, hS2.sq, ?_⟩
    have last : IntMulOk 104729 t ∧ IntMulOk (cell % 2147483629 + 104729 * t + 3) 48271 ∧ IntMulOk ((cell % 2147483629 + 104729 * t + 3) * 48271 % 2147483647) ((cell % 2147483629 + 104729 * t + 3) * 48271 % 2147483647) ∧ IntMulOk 69621 ((cell % 2147483629 + 104729 * t + 3) * 48271 % 2147483647) ∧
        CDivB (((cell % 2147483629 + 104729 * t + 3) * 48271 % 2147483647 * ((cell % 2147483629 + 104729 * t + 3) * 48271 % 2147483647) + 69621 * ((cell % 2147483629 + 104729 * t + 3) * 48271 % 2147483647) + t) % 2147483587) 8 ∧ 0 < m ∧
        Q (V.int (((cell % 2147483629 + 104729 * t + 3) * 48271 % 2147483647 * ((cell % 2147483629 + 104729 * t + 3) * 48271 % 2147483647) + 69621 * ((cell % 2147483629 + 104729 * t + 3) * 48271 % 2147483647) + t) % 2147483587 / 8 % m)) H2 :=
      ⟨mul_l (by decide) (by decide), mul_r (by decide) (by decide), mul_l (by omega) (by omega), mul_l (by decide) (by decide), divB (by decide) (by decide), by omega, q _ _ (modq (by omega)).1 (modq (by omega)).2 hP2 hS2 C2⟩
    refine ite2 (fun _ => ?_) (fun _ => last)
    refine ite2 (fun _ => ?_) (fun _ => last)
    have h0 : 0 ≤ (if cell < 0 then -cell else cell) := by split <;> omega
    refine ⟨divB (by omega) h2, by omega, ?_⟩
    exact q _ _ (modq (by omega)).1 (modq (by omega)).2 (pen_of (by omega) (by omega) (divq h0 (by omega))) (hS2.pen hP2 (Chg.upd _)) (C2.trans (Chg.upd _))
end

section
variable {P : Program} {w : World} {K : PySem.W.Frag} {mg : Str → Option Value} {base : Heap}
theorem ok_any (T : Txt K mg) : Cal P w K mg base 2 "_law_any" ["_law_pen_here", "_law_size"] (spAny K) := by
  have B := T.bl
  have C_l_draw := ok_draw (P := P) (w := w) (base := base) T
  refine mkCal T.t_l_any sc_l_any (fun vs H Q E h => ?_) (fun f cdv A outer s H vs Q E hr h => ?_)
  · obtain ⟨p, a, ns, c, sz, rfl, _⟩ := h
    rfl
  obtain ⟨p, a, ns, c, sz, rfl, hP, hS, h63, hc, z0, z1, q⟩ := h
  refine ⟨_, (pss_cons (ps_set (i := 2) sc_l_any.nd rfl (by first | exact Or.inl rfl | exact Or.inr rfl) pe_int)
    (pss_cons (ps_for PassesOwn.never rfl (pi_range1 rfl B.range (pa_cons (pe_op op_add pe_int (pe_op op_fdivB (pv 1) pe_int)) pa_nil)) (pg_name (i := 3) sc_l_any.nd rfl (by first | exact Or.inl rfl | exact Or.inr rfl)) (pss_one (ps_set (i := 2) sc_l_any.nd rfl (by first | exact Or.inl rfl | exact Or.inr rfl) (pe_op op_add (pe_op op_mulB (pv 2) (pe_op op_powB pe_int pe_int)) (pe_cal C_l_draw hr rfl (pa_cons (pv 0) (pa_cons (pe_op op_powB pe_int pe_int) pa_nil)))))))
    (pss_one (ps_ret (pe_op op_mod (pv 2) (pe_op op_mulB pe_int (pe_op op_powB pe_int pe_int))))))), ?_⟩
  rw [show start ["_law_pen_here", "_law_size", "_law_number_here", "_law_k"] [.ref p, .int sz] = [some (.ref p), some (.int sz), none, none] from rfl]
  try walk_at "WP"
  refine ⟨divB (by decide) (by decide), by omega, by omega, ?_⟩
  refine forR (fun i σ H' => ∃ (o : Option V) (n : Int), σ = [some (.ref p), some (.int sz), some (.int n), o] ∧ 0 ≤ n ∧ Pen H' p a (c + i) ∧ Scr K H' a ns ∧ Chg p H H') ⟨none, 0, rfl, by decide, hP.mono (by omega), hS, Chg.refl⟩ ?_ ?_
  · rintro i σ H' N hi ⟨o, n, rfl, hn, PP, SS, CC⟩ hN
    try walk_at "WP"
    refine ⟨mul_r (by decide) (by decide), ?_⟩
    refine draw_ PP SS h63 (by omega) (by decide) (by decide) fun d H2 d0 d1 P2 S2 C2 => ?_
    try walk_at "WP"
    exact hN _ _ ⟨_, _, rfl, by omega, P2.mono (by omega), S2, CC.trans C2⟩
  · rintro σ H' ⟨o, n, rfl, hn, PP, SS, CC⟩
    try walk_at "WP"
    refine ⟨mul_l (by decide) (by decide), ?_⟩
    exact q _ _ (by omega) (by omega) (PP.mono (by omega)) SS CC
theorem ok_num (T : Txt K mg) : Cal P w K mg base 3 "_law_number" ["_law_pen_here"] (spNumP K) := by
  have B := T.bl
  have C_l_draw := (ok_draw (P := P) (w := w) (base := base) T).mono (k := 2) (by decide)
  have C_l_any := ok_any (P := P) (w := w) (base := base) T
  refine mkCal T.t_l_number sc_l_number (fun vs H Q E h => ?_) (fun f cdv A outer s H vs Q E hr h => ?_)
  · obtain ⟨p, a, ns, c, rfl, _⟩ := h
    rfl
  obtain ⟨p, a, ns, c, rfl, hP, hS, h63, hc, q⟩ := h
  refine ⟨_, (pss_cons (ps_set (i := 1) sc_l_number.nd rfl (by first | exact Or.inl rfl | exact Or.inr rfl) (pe_cal C_l_draw hr rfl (pa_cons (pv 0) (pa_cons pe_int pa_nil))))
    (pss_cons (ps_set (i := 2) sc_l_number.nd rfl (by first | exact Or.inl rfl | exact Or.inr rfl) (pe_cal C_l_draw hr rfl (pa_cons (pv 0) (pa_cons pe_int pa_nil))))
    (pss_cons (ps_set (i := 3) sc_l_number.nd rfl (by first | exact Or.inl rfl | exact Or.inr rfl) (pe_cal C_l_draw hr rfl (pa_cons (pv 0) (pa_cons pe_int pa_nil))))
    (pss_cons (ps_set (i := 4) sc_l_number.nd rfl (by first | exact Or.inl rfl | exact Or.inr rfl) (pv 3))
    (pss_mid (ps_if (pt_cmpR op_eq (pv 1) pe_int (nomark _)) (pss_one (ps_set (i := 4) sc_l_number.nd rfl (by first | exact Or.inl rfl | exact Or.inr rfl) (pe_op op_shlB pe_int (pv 2)))) pss_nil)
    (pss_mid (ps_if (pt_cmpR op_eq (pv 1) pe_int (nomark _)) (pss_one (ps_set (i := 4) sc_l_number.nd rfl (by first | exact Or.inl rfl | exact Or.inr rfl) (pe_op op_sub (pe_op op_shlB pe_int (pv 2)) (pe_op op_shlB pe_int (pe_op op_mod (pv 3) (pe_op op_add (pv 2) pe_int)))))) pss_nil)
    (pss_mid (ps_if (pt_cmpR op_eq (pv 1) pe_int (nomark _)) (pss_cons (ps_set (i := 4) sc_l_number.nd rfl (by first | exact Or.inl rfl | exact Or.inr rfl) pe_int)
    (pss_one (ps_for PassesOwn.never rfl (pi_range1 rfl B.range (pa_cons (pe_op op_add pe_int (pe_op op_mod (pv 3) pe_int)) pa_nil)) (pg_name (i := 5) sc_l_number.nd rfl (by first | exact Or.inl rfl | exact Or.inr rfl)) (pss_one (ps_set (i := 4) sc_l_number.nd rfl (by first | exact Or.inl rfl | exact Or.inr rfl) (pe_op op_add (pv 4) (pe_op op_mulB (pe_op op_shlB pe_int (pe_cal C_l_draw hr rfl (pa_cons (pv 0) (pa_cons pe_int pa_nil)))) (pe_op op_sub pe_int (pe_op op_mulB pe_int (pe_cal C_l_draw hr rfl (pa_cons (pv 0) (pa_cons pe_int pa_nil)))))))))))) pss_nil)
    (pss_mid (ps_if (pt_cmpR op_eq (pv 1) pe_int (nomark _)) (pss_cons (ps_set (i := 6) sc_l_number.nd rfl (by first | exact Or.inl rfl | exact Or.inr rfl) (pe_op op_add pe_int (pe_op op_mod (pv 3) pe_int)))
    (pss_one (ps_set (i := 4) sc_l_number.nd rfl (by first | exact Or.inl rfl | exact Or.inr rfl) (pe_op op_fdivB (pe_op op_mulB (pe_op op_fdivB (pe_op op_sub (pe_op op_shlB pe_int (pe_op op_mulB (pv 6) (pe_op op_fdivB (pv 2) (pv 6)))) pe_int) (pe_op op_sub (pe_op op_shlB pe_int (pv 6)) pe_int)) (pe_ix ix_M (pe_lst (pa_cons pe_int (pa_cons pe_int (pa_cons pe_int (pa_cons pe_int pa_nil))))) (pe_op op_mod (pe_op op_fdivB (pv 3) pe_int) pe_int) (fun _ _ => rfl))) pe_int)))) pss_nil)
    (pss_mid (ps_if (pt_cmpR op_eq (pv 1) pe_int (nomark _)) (pss_one (ps_set (i := 4) sc_l_number.nd rfl (by first | exact Or.inl rfl | exact Or.inr rfl) (pe_op op_mulB (pe_op op_add (pe_op op_shlB pe_int (pe_op op_fdivB (pv 2) pe_int)) pe_int) (pe_op op_sub (pe_op op_shlB pe_int (pe_op op_mod (pv 3) pe_int)) pe_int)))) pss_nil)
    (pss_mid (ps_if (pt_cmpR op_eq (pv 1) pe_int (nomark _)) (pss_one (ps_set (i := 4) sc_l_number.nd rfl (by first | exact Or.inl rfl | exact Or.inr rfl) (pe_cal C_l_any hr rfl (pa_cons (pv 0) (pa_cons (pv 2) pa_nil))))) pss_nil)
    (pss_mid (ps_if (pt_cmpR op_eq (pv 1) pe_int (nomark _)) (pss_one (ps_set (i := 4) sc_l_number.nd rfl (by first | exact Or.inl rfl | exact Or.inr rfl) (pe_op op_sub (pe_op op_sub (pe_op op_mulB pe_int (pe_op op_powB pe_int pe_int)) pe_int) (pv 3)))) pss_nil)
    (pss_one (ps_ret (pe_op op_mulB (pv 4) (pe_op op_sub pe_int (pe_op op_mulB pe_int (pe_cal C_l_draw hr rfl (pa_cons (pv 0) (pa_cons pe_int pa_nil))))))))))))))))))), ?_⟩
  rw [show start ["_law_pen_here", "_law_way", "_law_size", "_law_small", "_law_number_here", "_law_k", "_law_wide"] [.ref p] = [some (.ref p), none, none, none, none, none, none] from rfl]
  try walk_at "WP"
  refine draw_ hP hS h63 (by omega) (by decide) (by decide) fun way H1 w0 w1 P1 S1 C1 => ?_
  refine draw_ P1 S1 h63 (by omega) (by decide) (by decide) fun sz H2 z0 z1 P2 S2 C2 => ?_
  refine draw_ P2 S2 h63 (by omega) (by decide) (by decide) fun sm H3 m0 m1 P3 S3 C3 => ?_
  have C3' : Chg p H H3 := (C1.trans C2).trans C3
  have big : (2 : Int) ^ 190 = 1569275433846670190958947355801916604025588861116008628224 := by decide
  have big2 : (10 : Int) ^ 59 = 100000000000000000000000000000000000000000000000000000000000 := by decide
  refine mid_of (fun σ H4 => H4 = H3 ∧ ∃ n : Int, σ = [some (.ref p), some (.int way), some (.int sz), some (.int sm), some (.int n), none, none] ∧ n.natAbs < 2 ^ 200) (fun N hN => ?_) ?_
  · try walk_at "WP"
    refine ite2 (fun _ => ?_) (fun _ => hN _ _ ⟨rfl, _, rfl, by omega⟩)
    have b := shl1_b (e := sz) (k := 190) (by omega)
    exact ⟨⟨by omega, by omega⟩, hN _ _ ⟨rfl, _, rfl, by omega⟩⟩
  rintro σ H4 ⟨rfl, n, rfl, hn⟩
  refine mid_of (fun σ H5 => H5 = H4 ∧ ∃ n : Int, σ = [some (.ref p), some (.int way), some (.int sz), some (.int sm), some (.int n), none, none] ∧ n.natAbs < 2 ^ 200) (fun N hN => ?_) ?_
  · try walk_at "WP"
    refine ite2 (fun _ => ?_) (fun _ => hN _ _ ⟨rfl, _, rfl, hn⟩)
    have b := shl1_b (e := sz) (k := 190) (by omega)
    have b2 := modq (g := sm) (m := sz + 1) (by omega)
    have b3 := shl1_b (e := sm % (sz + 1)) (k := 190) (by omega)
    exact ⟨⟨by omega, by omega⟩, by omega, ⟨by omega, by omega⟩, hN _ _ ⟨rfl, _, rfl, by omega⟩⟩
  rintro σ H5 ⟨rfl, n, rfl, hn⟩
  refine mid_of (fun σ H6 => ∃ (n : Int) (o5 : Option V), σ = [some (.ref p), some (.int way), some (.int sz), some (.int sm), some (.int n), o5, none] ∧ n.natAbs < 2 ^ 200 ∧ Pen H6 p a (c + 20) ∧ Scr K H6 a ns ∧ Chg p H H6) (fun N hN => ?_) ?_
  · try walk_at "WP"
    refine ite2 (fun _ => ?_) (fun _ => hN _ _ ⟨_, _, rfl, hn, P3.mono (by omega), S3, C3'⟩)
    refine ⟨by omega, by omega, ?_⟩
    refine forR (fun i σ H' => ∃ (o : Option V) (n : Int), σ = [some (.ref p), some (.int way), some (.int sz), some (.int sm), some (.int n), o, none] ∧ -(549755813888 * i) ≤ n ∧ n ≤ 549755813888 * i ∧ Pen H' p a (c + 3 + 2 * i) ∧ Scr K H' a ns ∧ Chg p H H') ⟨none, 0, rfl, by simp, by simp, P3.mono (by omega), S3, C3'⟩ ?_ ?_
    · rintro i σ H' M hi ⟨o, n, rfl, hn0, hn1, PP, SS, CC⟩ hM
      try walk_at "WP"
      refine draw_ PP SS h63 (by omega) (by decide) (by decide) fun d H2 d0 d1 P4 S4 C4 => ?_
      try walk_at "WP"
      refine ⟨⟨by omega, by omega⟩, ?_⟩
      refine draw_ P4 S4 h63 (by omega) (by decide) (by decide) fun g H5 g0 g1 P5 S5 C5 => ?_
      try walk_at "WP"
      have b := shl1_b (e := d) (k := 39) (by omega)
      have hg : 1 - 2 * g = 1 ∨ 1 - 2 * g = -1 := by omega
      refine ⟨mul_l (by decide) (by decide), mul_r (by omega) (by omega), hM _ _ ⟨_, _, rfl, ?_, ?_, P5.mono (by omega), S5, (CC.trans C4).trans C5⟩⟩
      · rcases hg with e | e <;> rw [e] <;> omega
      · rcases hg with e | e <;> rw [e] <;> omega
    · rintro σ H' ⟨o, n, rfl, hn0, hn1, PP, SS, CC⟩
      exact hN _ _ ⟨n, o, rfl, by omega, PP.mono (by omega), SS, CC⟩
  rintro σ H6 ⟨n, o5, rfl, hn, P6, S6, C6⟩
  refine mid_of (fun σ H7 => ∃ (n : Int) (o6 : Option V), σ = [some (.ref p), some (.int way), some (.int sz), some (.int sm), some (.int n), o5, o6] ∧ n.natAbs < 2 ^ 200 ∧ Pen H7 p a (c + 20) ∧ Scr K H7 a ns ∧ Chg p H H7) (fun N hN => ?_) ?_
  · try walk_at "WP"
    refine ite2 (fun _ => ?_) (fun _ => hN _ _ ⟨_, _, rfl, hn, P6, S6, C6⟩)
    have hwd : 2 ≤ 2 + sm % 4 ∧ 2 + sm % 4 ≤ 5 := by omega
    generalize 2 + sm % 4 = wd at *
    have e0 : 0 ≤ wd * (sz / wd) ∧ wd * (sz / wd) ≤ sz := by
      have h1 := Int.ediv_nonneg z0 (by omega : 0 ≤ wd)
      have h2 := Int.mul_ediv_self_le (x := sz) (k := wd) (by omega)
      exact ⟨Int.mul_nonneg (by omega) h1, h2⟩
    have b := shl1_b (e := wd * (sz / wd)) (k := 190) (by omega)
    have b1 := shl1_b (e := wd) (k := 5) (by omega)
    have b2 : 4 ≤ 1 * (2 : Int) ^ wd.toNat := by
      have := p2le (e := 2) (k := wd.toNat) (by omega)
      omega
    refine ⟨divB (by omega) (by omega), mul_l (by omega) (by omega), ⟨by omega, by omega⟩, ⟨by omega, by omega⟩, divB (by omega) (by omega), ?_⟩
    intro e he
    refine ⟨divB (by decide) (by decide), ?_⟩
    have smv := same_new he (.lst [V.int 1, V.int 3, V.int 3, V.int 11])
    generalize hX : (1 * (2 : Int) ^ (wd * (sz / wd)).toNat - 1) / (1 * (2 : Int) ^ wd.toNat - 1) = X
    have hXb : 0 ≤ X ∧ X ≤ 2 ^ 190 := by
      have := div_le' (x := 1 * (2 : Int) ^ (wd * (sz / wd)).toNat - 1) (d := 1 * (2 : Int) ^ wd.toNat - 1) (by omega) (by omega)
      rw [hX] at this
      omega
    have fin : ∀ k : Int, 0 ≤ k → k ≤ 11 → IntMulOk X k ∧ CDivB (X * k) 8 ∧ N [some (.ref p), some (.int way), some (.int sz), some (.int sm), some (.int (X * k / 8)), o5, some (.int wd)] (upd H6 e (.lst [V.int 1, V.int 3, V.int 3, V.int 11])) := by
      intro k k0 k1
      have hb := mul_abs (x := X) (y := k) (A := 2 ^ 190) (B := 11) (by omega) (by omega) (by omega) (by decide)
      have h0 := Int.mul_nonneg hXb.1 k0
      refine ⟨mul_r (by omega) (by omega), divB (by decide) (by decide), hN _ _ ⟨_, _, rfl, ?_, P6.same smv, S6.same smv, C6.trans smv.chg⟩⟩
      omega
    rcases r4 (r := sm / 4 % 4) (by omega) (by omega) with e | e | e | e <;> rw [e]
    · try walk_at "WP"
      exact fin _ (by decide) (by decide)
    · try walk_at "WP"
      exact fin _ (by decide) (by decide)
    · try walk_at "WP"
      exact fin _ (by decide) (by decide)
    · try walk_at "WP"
      exact fin _ (by decide) (by decide)
  rintro σ H7 ⟨n, o6, rfl, hn, P7, S7, C7⟩
  refine mid_of (fun σ H8 => H8 = H7 ∧ ∃ n : Int, σ = [some (.ref p), some (.int way), some (.int sz), some (.int sm), some (.int n), o5, o6] ∧ n.natAbs < 2 ^ 200) (fun N hN => ?_) ?_
  · try walk_at "WP"
    refine ite2 (fun _ => ?_) (fun _ => hN _ _ ⟨rfl, _, rfl, hn⟩)
    have b := shl1_b (e := sz / 2) (k := 95) (by omega)
    have b2 := shl1_b (e := sm % 40) (k := 39) (by omega)
    have hb := mul_abs (x := 1 * 2 ^ (sz / 2).toNat + 1) (y := 1 * 2 ^ (sm % 40).toNat - 1) (A := 2 ^ 96) (B := 2 ^ 40) (by omega) (by omega) (by decide) (by decide)
    exact ⟨divB (by decide) (by decide), ⟨by omega, by omega⟩, ⟨by omega, by omega⟩, mul_r (by omega) (by omega), hN _ _ ⟨rfl, _, rfl, by omega⟩⟩
  rintro σ H8 ⟨rfl, n, rfl, hn⟩
  refine mid_of (fun σ H9 => ∃ n : Int, σ = [some (.ref p), some (.int way), some (.int sz), some (.int sm), some (.int n), o5, o6] ∧ n.natAbs < 2 ^ 200 ∧ Pen H9 p a (c + 30) ∧ Scr K H9 a ns ∧ Chg p H H9) (fun N hN => ?_) ?_
  · try walk_at "WP"
    refine ite2 (fun _ => ?_) (fun _ => hN _ _ ⟨_, rfl, hn, P7.mono (by omega), S7, C7⟩)
    refine ⟨p, a, ns, _, sz, rfl, P7, S7, h63, by omega, by omega, by omega, fun r H9 r0 r1 P9 S9 C9 => ?_⟩
    exact hN _ _ ⟨r, rfl, by omega, P9.mono (by omega), S9, C7.trans C9⟩
  rintro σ H9 ⟨n, rfl, hn, P9, S9, C9⟩
  refine mid_of (fun σ H8 => H8 = H9 ∧ ∃ n : Int, σ = [some (.ref p), some (.int way), some (.int sz), some (.int sm), some (.int n), o5, o6] ∧ n.natAbs < 2 ^ 200) (fun N hN => ?_) ?_
  · try walk_at "WP"
    exact ite2 (fun _ => ⟨mul_l (by decide) (by decide), hN _ _ ⟨rfl, _, rfl, by omega⟩⟩) (fun _ => hN _ _ ⟨rfl, _, rfl, hn⟩)
  rintro σ HA ⟨rfl, n, rfl, hn⟩
  try walk_at "WP"
  refine draw_ P9 S9 h63 (by omega) (by decide) (by decide) fun g HB g0 g1 PB SB CB => ?_
  try walk_at "WP"
  have hg : 1 - 2 * g = 1 ∨ 1 - 2 * g = -1 := by omega
  refine ⟨mul_l (by decide) (by decide), mul_r (by omega) (by omega), ?_⟩
  refine q _ _ (by rcases hg with e | e <;> rw [e] <;> omega) (PB.mono (by omega)) SB (C9.trans CB)
end

section
variable {P : Program} {w : World} {K : PySem.W.Frag} {mg : Str → Option Value} {base : Heap}
theorem ok_numbers (T : Txt K mg) : Cal P w K mg base 4 "_law_numbers" ["_law_pen_here"] (spNumbers K) := by
  have B := T.bl
  have C_l_draw := (ok_draw (P := P) (w := w) (base := base) T).mono (k := 3) (by decide)
  have C_l_number := ok_num (P := P) (w := w) (base := base) T
  refine mkCal T.t_l_numbers sc_l_numbers (fun vs H Q E h => ?_) (fun f cdv A outer s H vs Q E hr h => ?_)
  · obtain ⟨p, a, ns, c, rfl, _⟩ := h
    rfl
  obtain ⟨p, a, ns, c, rfl, hP, hS, h63, hc, q⟩ := h
  refine ⟨_, (pss_cons (ps_set (i := 1) sc_l_numbers.nd rfl (by first | exact Or.inl rfl | exact Or.inr rfl) (pe_lst pa_nil))
    (pss_cons (ps_for PassesOwn.never rfl (pi_range1 rfl B.range (pa_cons (pe_cal C_l_draw hr rfl (pa_cons (pv 0) (pa_cons pe_int pa_nil))) pa_nil)) (pg_name (i := 2) sc_l_numbers.nd rfl (by first | exact Or.inl rfl | exact Or.inr rfl)) (pss_cons (ps_set (i := 3) sc_l_numbers.nd rfl (by first | exact Or.inl rfl | exact Or.inr rfl) (pe_cal C_l_draw hr rfl (pa_cons (pv 0) (pa_cons pe_int pa_nil))))
    (pss_cons (ps_set (i := 4) sc_l_numbers.nd rfl (by first | exact Or.inl rfl | exact Or.inr rfl) (pe_cal C_l_number hr rfl (pa_cons (pv 0) pa_nil)))
    (pss_mid (ps_if (PW.pt (pw_and (pt_cmpR op_eq (pv 3) pe_int (nomark _)) (pw_and1 (pt_cmpR (op_neD hr) (pv 1) (pe_lst pa_nil) (nomark _))))) (pss_cons (ps_set (i := 4) sc_l_numbers.nd rfl (by first | exact Or.inl rfl | exact Or.inr rfl) (pe_ix ix_M (pv 1) (pe_cal C_l_draw hr rfl (pa_cons (pv 0) (pa_cons (pe_callB call_lenM rfl B.len bo_len (pa_cons (pv 1) pa_nil)) pa_nil))) (fun _ _ => rfl)))
    (pss_one (ps_if (pt_cmpR op_lt (pe_callB call_abs rfl B.abs bo_abs (pa_cons (pv 4) pa_nil)) (pe_op op_powB pe_int pe_int) (nomark _)) (pss_one (ps_set (i := 4) sc_l_numbers.nd rfl (by first | exact Or.inl rfl | exact Or.inr rfl) (pe_op op_mulB (pe_op op_mulB (pv 4) (pe_op op_shlB pe_int (pe_cal C_l_draw hr rfl (pa_cons (pv 0) (pa_cons pe_int pa_nil))))) (pe_op op_sub pe_int (pe_op op_mulB pe_int (pe_cal C_l_draw hr rfl (pa_cons (pv 0) (pa_cons pe_int pa_nil)))))))) pss_nil))) pss_nil)
    (pss_mid (ps_if (pt_cmpR op_eq (pv 3) pe_int (nomark _)) (pss_one (ps_set (i := 4) sc_l_numbers.nd rfl (by first | exact Or.inl rfl | exact Or.inr rfl) (pe_op op_sub (pe_cal C_l_draw hr rfl (pa_cons (pv 0) (pa_cons pe_int pa_nil))) pe_int))) pss_nil)
    (pss_one (ps_expr (pe_bm PySem.F.plainAttrs_list PySem.F.slot_list_append PySem.F.type_list_append mt_append (pv 1) (pa_cons (pv 4) pa_nil)))))))))
    (pss_one (ps_ret (pv 1))))), ?_⟩
  rw [show start ["_law_pen_here", "_law_found", "_law_k", "_law_way", "_law_number_here"] [.ref p] = [some (.ref p), none, none, none, none] from rfl]
  try walk_at "WP"
  intro r hr0
  have sm := same_new hr0 (.lst [])
  have hrp : r ≠ p := hP.ne hr0
  refine draw_ (hP.same sm) (hS.same sm) h63 (by omega) (by decide) (by decide) fun m H1 m0 m1 P1 S1 C1 => ?_
  try walk_at "WP"
  refine ⟨by omega, by omega, ?_⟩
  refine forR (fun i σ H' => ∃ (o2 o3 o4 : Option V) (xs : List Int), σ = [some (.ref p), some (.ref r), o2, o3, o4] ∧ H' r = some (.lst (xs.map V.int)) ∧ xs.length = i ∧ (∀ x ∈ xs, x.natAbs < 2 ^ 200) ∧ Pen H' p a (c + 1 + 50 * i) ∧ Scr K H' a ns ∧ Chg p H H')
    ⟨none, none, none, [], rfl, C1 r _ hrp upd_same, rfl, by simp, P1.mono (by omega), S1, sm.chg.trans C1⟩ ?_ ?_
  · rintro i σ H' N hi ⟨o2, o3, o4, xs, rfl, hr', hl, hxs, PP, SS, CC⟩ hN
    have hi7 : i < 7 := by omega
    try walk_at "WP"
    refine draw_ PP SS h63 (by omega) (by decide) (by decide) fun wy H2 w0 w1 P2 S2 C2 => ?_
    try walk_at "WP"
    refine num_ P2 S2 h63 (by omega) fun n0 H3 hn0 P3 S3 C3 => ?_
    try walk_at "WP"
    have hr3 := C3 r _ hrp (C2 r _ hrp hr')
    have CC3 := (CC.trans C2).trans C3
    refine mid_of (fun σ H4 => ∃ n : Int, σ = [some (.ref p), some (.ref r), some (.int (0 + i)), some (.int wy), some (.int n)] ∧ n.natAbs < 2 ^ 200 ∧ H4 r = some (.lst (xs.map V.int)) ∧ Pen H4 p a (c + 1 + 50 * i + 45) ∧ Scr K H4 a ns ∧ Chg p H H4) (fun N1 hN1 => ?_) ?_
    · try walk_at "WP"
      refine ite2 (fun z => ?_) (fun z => hN1 _ _ ⟨n0, rfl, hn0, hr3, P3.mono (by omega), S3, CC3⟩)
      intro e he
      have sme := same_new he (.lst [])
      have hre := sme _ _ hr3
      have Pe := P3.same sme
      have Se := S3.same sme
      have Ce := CC3.trans (sme.chg (p := p))
      refine neLI (ns := xs) (ms := []) (SqL.of hre) (SqL.of upd_same) ?_
      generalize upd H3 e (.lst []) = He at hre Pe Se Ce ⊢
      try walk_at "WP"
      refine ite2 (fun z2 => ?_) (fun z2 => hN1 _ _ ⟨n0, rfl, hn0, hre, Pe.mono (by omega), Se, Ce⟩)
      have hpos : 0 < xs.length := List.length_pos_iff.mpr z2
      refine ⟨_, hre, ?_⟩
      rw [List.length_map]
      refine draw_ Pe Se h63 (by omega) (by omega) (by omega) fun g H5 g0 g1 P5 S5 C5 => ?_
      have hr5 := C5 r _ hrp hre
      try walk_at "WP"
      refine ⟨_, hr5, ?_⟩
      obtain ⟨v, hv, hv2⟩ := atI_int (ns := xs) g0 g1
      have hvb : v.natAbs < 2 ^ 200 := hxs v (List.mem_of_getElem? hv2)
      refine ⟨_, hv, ?_⟩
      try walk_at "WP"
      refine ite2 (fun z3 => ?_) (fun z3 => hN1 _ _ ⟨v, rfl, hvb, hr5, P5.mono (by omega), S5, Ce.trans C5⟩)
      refine draw_ P5 S5 h63 (by omega) (by decide) (by decide) fun g1 H6 g10 g11 P6 S6 C6 => ?_
      try walk_at "WP"
      have hsh := shl1_b (e := g1) (k := 20) (by omega)
      have hv40 : -(10 ^ 40) ≤ v ∧ v ≤ 10 ^ 40 := by
        split at z3 <;> omega
      have hm1 := mul_abs (x := v) (y := 1 * 2 ^ g1.toNat) (A := 10 ^ 40) (B := 2 ^ 20) hv40 ⟨by omega, hsh.2⟩ (by decide) (by decide)
      refine ⟨⟨g10, by omega⟩, mul_b (m := 200) (n := 21) hvb (by omega) (by decide), ?_⟩
      refine draw_ P6 S6 h63 (by omega) (by decide) (by decide) fun g2 H7 g20 g21 P7 S7 C7 => ?_
      try walk_at "WP"
      have hr7 := C7 r _ hrp (C6 r _ hrp hr5)
      have hm2 := mul_abs (x := v * (1 * 2 ^ g1.toNat)) (y := 1 - 2 * g2) (A := 10 ^ 40 * 2 ^ 20) (B := 1) hm1 (by omega) (by decide) (by decide)
      refine ⟨mul_l (by decide) (by decide), mul_r (by omega) (by omega), hN1 _ _ ⟨_, rfl, ?_, hr7, P7.mono (by omega), S7, ((Ce.trans C5).trans C6).trans C7⟩⟩
      have : (10 : Int) ^ 40 * 2 ^ 20 * 1 < 2 ^ 200 := by decide
      omega
    · rintro σ H4 ⟨n, rfl, hn, hr4, P4, S4, C4⟩
      refine mid_of (fun σ H5 => ∃ n : Int, σ = [some (.ref p), some (.ref r), some (.int (0 + i)), some (.int wy), some (.int n)] ∧ n.natAbs < 2 ^ 200 ∧ H5 r = some (.lst (xs.map V.int)) ∧ Pen H5 p a (c + 1 + 50 * i + 50) ∧ Scr K H5 a ns ∧ Chg p H H5) (fun N1 hN1 => ?_) ?_
      · try walk_at "WP"
        refine ite2 (fun z => ?_) (fun z => hN1 _ _ ⟨n, rfl, hn, hr4, P4.mono (by omega), S4, C4⟩)
        refine draw_ P4 S4 h63 (by omega) (by decide) (by decide) fun g H5 g0 g1 P5 S5 C5 => ?_
        try walk_at "WP"
        exact hN1 _ _ ⟨_, rfl, by omega, C5 r _ hrp hr4, P5.mono (by omega), S5, C4.trans C5⟩
      · rintro σ H5 ⟨n, rfl, hn, hr5, P5, S5, C5⟩
        try walk_at "WP"
        refine ⟨ty_list hr5, _, hr5, by rw [List.length_map]; exact lt_big (by omega), ?_⟩
        have C89 : Chg r H5 (upd H5 r (.lst (xs.map V.int ++ [V.int n]))) := Chg.upd _
        refine hN _ _ ⟨_, _, _, xs ++ [n], rfl, by rw [upd_same, List.map_append]; rfl, by simp [hl], ?_, ?_, S5.chg hr5 C89, fun b o hb hq => by rw [upd_ne (ne_of_none hq hr0)]; exact C5 b o hb hq⟩
        · intro x hx
          rcases List.mem_append.mp hx with z | z
          · exact hxs x z
          · rw [List.mem_singleton.mp z]; exact hn
        · obtain ⟨t, l, e1, h1, h2, h3⟩ := P5
          exact ⟨t, l, C89 p _ (Ne.symm hrp) e1, h1, by omega, h3⟩
  · rintro σ H' ⟨o2, o3, o4, xs, rfl, hr', hl, hxs, PP, SS, CC⟩
    try walk_at "WP"
    exact q r xs H' hr0 hr' (by omega) hxs (PP.mono (by omega)) SS CC
end

section
variable {P : Program} {w : World} {K : PySem.W.Frag} {mg : Str → Option Value} {base : Heap}
theorem ok_first (T : Txt K mg) : Cal P w K mg base 1 "first_sign" ["number"] spFirst := by
  have B := T.bl
  refine mkCal T.t_first_sign sc_first_sign (fun vs H Q E h => ?_) (fun f cdv A outer s H vs Q E hr h => ?_)
  · obtain ⟨n, rfl, _⟩ := h
    rfl
  obtain ⟨n, rfl, q⟩ := h
  refine ⟨_, (pss_cons (ps_if (pt_cmpR op_eq (pe_op op_and (pv 0) pe_int) pe_int (nomark _)) (pss_one (ps_ret pe_int)) pss_nil)
    (pss_one (ps_ret (pe_op op_sub pe_int (pe_op op_and (pv 0) pe_int))))), ?_⟩
  rw [show start ["number"] [.int n] = [some (.int n)] from rfl]
  (iterate 5 ((try (walk_at "WP")); (try (simp only [and1, and3, Option.some.injEq, HO.tup.injEq, HO.lst.injEq, HO.dK.injEq, exists_eq_left', exists_eq_left])))); (try (walk_at "WP"))
  unfold fs at q
  refine ite2 (fun c => ?_) (fun c => ?_)
  · rw [if_pos c] at q
    exact q
  · rw [if_neg c] at q
    exact q
theorem ok_signs (T : Txt K mg) : Cal P w K mg base 2 "signs" ["number"] spSigns := by
  have B := T.bl
  have C_first_sign := ok_first (P := P) (w := w) (base := base) T
  refine mkCal T.t_signs sc_signs (fun vs H Q E h => ?_) (fun f cdv A outer s H vs Q E hr h => ?_)
  · obtain ⟨n, rfl, _⟩ := h
    rfl
  obtain ⟨n, rfl, hb, q⟩ := h
  refine ⟨_, (pss_cons (ps_set (i := 1) sc_signs.nd rfl (by first | exact Or.inl rfl | exact Or.inr rfl) (pe_lst pa_nil))
    (pss_cons (ps_set (i := 2) sc_signs.nd rfl (by first | exact Or.inl rfl | exact Or.inr rfl) (pv 0))
    (pss_cons (ps_whl PassesOwn.never (pt_cmpR op_ne (pv 2) pe_int (nomark _)) (pss_cons (ps_set (i := 3) sc_signs.nd rfl (by first | exact Or.inl rfl | exact Or.inr rfl) (pe_cal C_first_sign hr rfl (pa_cons (pv 2) pa_nil)))
    (pss_cons (ps_expr (pe_bm PySem.F.plainAttrs_list PySem.F.slot_list_append PySem.F.type_list_append mt_append (pv 1) (pa_cons (pv 3) pa_nil)))
    (pss_one (ps_set (i := 2) sc_signs.nd rfl (by first | exact Or.inl rfl | exact Or.inr rfl) (pe_op op_shr (pe_op op_sub (pv 2) (pv 3)) pe_int))))))
    (pss_one (ps_ret (pv 1)))))), ?_⟩
  rw [show start ["number", "digits", "rest", "digit"] [.int n] = [some (.int n), none, none, none] from rfl]
  try walk_at "WP"
  intro r hr0
  have hlen := naf_len 5000 n hb
  refine whl (fun m σ H' => ∃ (rest : Int) (ds : List Int) (o : Option V), m = rest.natAbs ∧ σ = [some (.int n), some (.ref r), some (.int rest), o] ∧ H' = upd H r (.lst (ds.map V.int)) ∧ ds ++ naf rest = naf n) n.natAbs ⟨n, [], none, rfl, rfl, rfl, rfl⟩ ?_
  rintro m σ H' N ⟨rest, ds, o, rfl, rfl, rfl, e⟩ hN
  try walk_at "WP"
  refine ite2 (fun c => ?_) (fun c => ?_)
  · refine ⟨rest, rfl, ?_⟩
    have hd : ds.length + 1 ≤ (naf n).length := by rw [← e, naf_step c, List.length_append, List.length_cons]; omega
    have hsz : (ds.map V.int).length < sizeLine := by
      rw [List.length_map]
      exact Nat.lt_of_lt_of_le (by omega : ds.length < 10000) (by decide)
    try walk_at "WP"
    refine ⟨ty_list upd_same, hsz, hN _ _ _ (fs_lt c) ⟨_, ds ++ [fs rest], some (.int (fs rest)), rfl, by simp, ?_, ?_⟩⟩
    · rw [upd_upd, List.map_append]
      rfl
    · rw [List.append_assoc, ← e, naf_step c]
      rfl
  · have z : rest = 0 := Decidable.not_not.mp c
    subst z
    rw [naf_zero, List.append_nil] at e
    rw [e]
    exact q r hr0
end

section
variable {P : Program} {w : World} {K : PySem.W.Frag} {mg : Str → Option Value} {base : Heap}
theorem ok_whole (T : Txt K mg) : Cal P w K mg base 1 "_law_whole" ["_law_thing"] spWhole := by
  have B := T.bl
  refine mkCal T.t_l_whole sc_l_whole (fun vs H Q E h => ?_) (fun f cdv A outer s H vs Q E hr h => ?_)
  · obtain ⟨n, rfl, _⟩ := h
    rfl
  obtain ⟨n, rfl, q⟩ := h
  refine ⟨_, (pss_one (ps_ret (pe_and (pe_callB call_isI rfl B.isinstance bo_isinstance (pa_cons (pv 0) (pa_cons (pe_bltn (v := .ty "int") rfl B.int bo_int rfl) pa_nil))) (pe_one (pe_not (pe_callB call_isI rfl B.isinstance bo_isinstance (pa_cons (pv 0) (pa_cons (pe_bltn (v := .ty "bool") rfl B.bool bo_bool rfl) pa_nil)))))))), ?_⟩
  rw [show start ["_law_thing"] [.int n] = [some (.int n)] from rfl]
  try walk_at "WP"
  exact q
end

section
variable {P : Program} {w : World} {K : PySem.W.Frag} {mg : Str → Option Value} {base : Heap}
theorem ok_lsigns (T : Txt K mg) : Cal P w K mg base 1 "_law_signs" ["_law_number_here"] spLSigns := by
  have B := T.bl
  refine mkCal T.t_l_signs sc_l_signs (fun vs H Q E h => ?_) (fun f cdv A outer s H vs Q E hr h => ?_)
  · obtain ⟨n, rfl, _⟩ := h
    rfl
  obtain ⟨n, rfl, hb, q⟩ := h
  refine ⟨_, (pss_cons (ps_set (i := 1) sc_l_signs.nd rfl (by first | exact Or.inl rfl | exact Or.inr rfl) (pe_callB call_abs rfl B.abs bo_abs (pa_cons (pv 0) pa_nil)))
    (pss_cons (ps_set (i := 2) sc_l_signs.nd rfl (by first | exact Or.inl rfl | exact Or.inr rfl) (pe_lst pa_nil))
    (pss_cons (ps_set (i := 3) sc_l_signs.nd rfl (by first | exact Or.inl rfl | exact Or.inr rfl) pe_int)
    (pss_cons (ps_whl PassesOwn.never (pt_cmpR op_gt (pe_op op_shr (pe_op op_mulB pe_int (pv 1)) (pv 3)) pe_int (nomark _)) (pss_cons (ps_expr (pe_bm PySem.F.plainAttrs_list PySem.F.slot_list_append PySem.F.type_list_append mt_append (pv 2) (pa_cons (pe_op op_sub (pe_op op_and (pe_op op_shr (pe_op op_mulB pe_int (pv 1)) (pv 3)) pe_int) (pe_op op_and (pe_op op_shr (pv 1) (pv 3)) pe_int)) pa_nil)))
    (pss_one (ps_set (i := 3) sc_l_signs.nd rfl (by first | exact Or.inl rfl | exact Or.inr rfl) (pe_op op_add (pv 3) pe_int)))))
    (pss_cons (ps_if (pt_cmpR op_lt (pv 0) pe_int (nomark _)) (pss_one (ps_setComp0 (ix := 2) (N := ["_law_digit"]) (nt := 1) (cs := []) rfl (pi_list (pv 2)) (fun nd C s H fp => ⟨(pg_name (i := 0) nd rfl (by first | exact Or.inl rfl | exact Or.inr rfl)), pn_nil, (pe_op op_sub pe_int (pv 0))⟩) (by decide +kernel) (by first | rfl | decide +kernel) (by first | rfl | decide +kernel) rfl (fun _ => rfl) sc_l_signs.nd rfl (by first | exact Or.inl rfl | exact Or.inr rfl) (by first | exact .inl rfl | exact .inr rfl) rfl)) pss_nil)
    (pss_one (ps_ret (pv 2)))))))), ?_⟩
  rw [show start ["_law_number_here", "_law_size", "_law_found", "_law_place"] [.int n] = [some (.int n), none, none, none] from rfl]
  try walk_at "WP"
  intro r hr0
  generalize hsz : (if n < 0 then -n else n) = sz
  have hs0 : 0 ≤ sz := by rw [← hsz]; split <;> omega
  have hsb : sz.natAbs < 2 ^ 5000 := by
    have : sz.natAbs = n.natAbs := by rw [← hsz]; split <;> omega
    rw [this]; exact hb
  have hlen := naf_len 5000 sz hsb
  refine whl (fun m σ H' => ∃ k : Nat, m = (naf sz).length - k ∧ k ≤ (naf sz).length ∧ σ = [some (.int n), some (.int sz), some (.ref r), some (.int ((k : Int) + 1))] ∧ H' = upd H r (.lst (((naf sz).take k).map V.int))) _ ⟨0, rfl, Nat.zero_le _, by simp, by simp⟩ ?_
  rintro m σ H' N ⟨k, rfl, hk, rfl, rfl⟩ hN
  have hkn : ((k : Int) + 1).toNat = k + 1 := by omega
  obtain ⟨ba, bb⟩ := naf_bits k sz hs0
  (iterate 5 ((try (walk_at "WP")); (try (simp only [and1, Option.some.injEq, HO.tup.injEq, HO.lst.injEq, HO.dK.injEq, exists_eq_left', exists_eq_left])))); (try (walk_at "WP"))
  rw [hkn]
  refine ⟨mul_l (by decide) (by decide), by omega, ite2 (fun c => ?_) (fun c => ?_)⟩
  · have lt := ba.mpr c
    have hd := bb _ (List.getElem?_eq_getElem lt)
    have last : (((naf sz).take k).map V.int).length < sizeLine ∧ N [some (V.int n), some (V.int sz), some (V.ref r), some (V.int ((k : Int) + 1 + 1))] (upd (upd H r (HO.lst (List.map V.int (List.take k (naf sz))))) r (HO.lst (List.map V.int (List.take k (naf sz)) ++ [V.int (3 * sz / 2 ^ (k + 1) % 2 - sz / 2 ^ (k + 1) % 2)]))) := by
      refine ⟨by rw [List.length_map, List.length_take]; exact lt_big (by omega), hN _ _ _ (show (naf sz).length - (k + 1) < (naf sz).length - k by omega) ⟨k + 1, rfl, lt, by simp, ?_⟩⟩
      rw [upd_upd, List.take_add_one, List.getElem?_eq_getElem lt, hd, List.map_append]
      rfl
    have i0 : (0 : Int) ≤ (k : Int) + 1 := by omega
    first
      | exact ⟨ty_list upd_same, mul_l (by decide) (by decide), i0, last⟩
      | exact ⟨ty_list upd_same, mul_l (by decide) (by decide), i0, i0, last⟩
      | exact ⟨ty_list upd_same, ⟨mul_l (by decide) (by decide), i0⟩, i0, last⟩
  · have e : k = (naf sz).length := by
      have := mt ba.mp c
      omega
    subst e
    rw [List.take_length]
    refine ite2 (fun hn => ?_) (fun hn => ?_)
    · rw [if_pos hn] at hsz
      refine ⟨⟨_, SqL.of upd_same⟩, ?_⟩
      refine comp_L (f := fun x => match x with | .int d => some (.int (0 - d)) | _ => none) (SqL.of upd_same) (by rw [List.length_map]; exact le_big (by omega)) (fun x H' R hx hS' hR => ?_) (fun w hw => ?_)
      · obtain ⟨d, hd, rfl⟩ := List.mem_map.mp hx
        try walk_at "WP"
        exact hR
      have e9 : ((naf sz).map V.int).filterMap (fun x => match x with | .int d => some (.int (0 - d)) | _ => none) = (naf n).map V.int := by
        rw [show n = -sz by omega, naf_neg, List.filterMap_map, List.map_map]
        exact filterMap_some _ _
      rw [e9]
      have hwH : H w = none := by
        cases z : H w with
        | none => rfl
        | some o => rw [same_new hr0 (.lst ((naf sz).map V.int)) w o z] at hw; cases hw
      exact q w _ hwH (same_upd hwH (same_new hr0 _)) upd_same
    · rw [if_neg hn] at hsz
      subst hsz
      exact q r _ hr0 (same_new hr0 _) upd_same
end

section
variable {P : Program} {w : World} {K : PySem.W.Frag} {mg : Str → Option Value} {base : Heap}
theorem ok_lleast (T : Txt K mg) : Cal P w K mg base 3 "_law_least" ["_law_number_here"] spLeast := by
  have B := T.bl
  have C_l_signs := (ok_lsigns (P := P) (w := w) (base := base) T).mono (k := 2) (by decide)
  refine mkCal T.t_l_least sc_l_least (fun vs H Q E h => ?_) (fun f cdv A outer s H vs Q E hr h => ?_)
  · obtain ⟨n, rfl, _⟩ := h
    rfl
  obtain ⟨n, rfl, hb, q⟩ := h
  refine ⟨_, (pss_one (ps_ret (pe_callB call_lenM rfl B.len bo_len (pa_cons (pe_comp0 (N := ["_law_digit"]) (nt := 1) (cs := []) rfl (pi_list (pe_cal C_l_signs hr rfl (pa_cons (pv 0) pa_nil))) (fun nd C s H fp => ⟨(pg_name (i := 0) nd rfl (by first | exact Or.inl rfl | exact Or.inr rfl)), (pn_one (pt_cmpR op_ne (pv 0) pe_int (nomark _))), (pv 0)⟩) (by decide +kernel) (by first | rfl | decide +kernel) (by first | rfl | decide +kernel) rfl (fun _ => rfl)) pa_nil)))), ?_⟩
  rw [show start ["_law_number_here"] [.int n] = [some (.int n)] from rfl]
  try walk_at "WP"
  refine ⟨n, rfl, hb, fun r H1 hr sm hr1 => ?_⟩
  try walk_at "WP"
  refine ⟨⟨_, SqL.of hr1⟩, ?_⟩
  refine comp_L (f := fltV) (SqL.of hr1) (by rw [List.length_map]; exact le_big (Nat.le_trans (naf_len 5000 n hb) (by decide))) (fun x H' R hx hS' hR => ?_) (fun w hw => ?_)
  · obtain ⟨d, hd, rfl⟩ := List.mem_map.mp hx
    try walk_at "WP"
    refine ite2 (fun c => ?_) (fun c => ?_)
    · rw [fltV_ne c] at hR
      exact hR
    · rw [Decidable.not_not.mp c] at hR
      exact hR
  rw [flt_len_map]
  have sm2 := same_new hw (.lst (((naf n).filter fun d => decide (d ≠ 0)).map V.int))
  refine ⟨w, rfl, _, upd_same, ?_⟩
  rw [List.length_map]
  exact q _ (sm.trans sm2)
end

section
variable {P : Program} {w : World} {K : PySem.W.Frag} {mg : Str → Option Value} {base : Heap}
theorem ok_lld (T : Txt K mg) : Cal P w K mg base 5 "_law_least_depth" ["_law_due"] spLD := by
  have B := T.bl
  have C_l_least := (ok_lleast (P := P) (w := w) (base := base) T).mono (k := 4) (by decide)
  refine mkCal T.t_l_least_depth sc_l_least_depth (fun vs H Q E h => ?_) (fun f cdv A outer s H vs Q E hr h => ?_)
  · obtain ⟨a, ns, rfl, _⟩ := h
    rfl
  obtain ⟨a, ns, rfl, ha, hl, hb, q⟩ := h
  refine ⟨_, (pss_cons (ps_set (i := 1) sc_l_least_depth.nd rfl (by first | exact Or.inl rfl | exact Or.inr rfl) (pe_callB (call_max1 rfl) rfl B.max bo_max (pa_cons (pe_op op_cat (pe_lst (pa_cons pe_int pa_nil)) (pe_comp0 (N := ["_law_number_here"]) (nt := 1) (cs := []) rfl (pi_list (pv 0)) (fun nd C s H fp => ⟨(pg_name (i := 0) nd rfl (by first | exact Or.inl rfl | exact Or.inr rfl)), pn_nil, (pe_cal C_l_least hr rfl (pa_cons (pv 0) pa_nil))⟩) (by decide +kernel) (by first | rfl | decide +kernel) (by first | rfl | decide +kernel) rfl (fun _ => rfl))) pa_nil)))
    (pss_cons (ps_set (i := 2) sc_l_least_depth.nd rfl (by first | exact Or.inl rfl | exact Or.inr rfl) pe_int)
    (pss_cons (ps_whl PassesOwn.never (pt_cmpR op_gt (pv 1) (pe_op op_shlB pe_int (pv 2)) (nomark _)) (pss_one (ps_set (i := 2) sc_l_least_depth.nd rfl (by first | exact Or.inl rfl | exact Or.inr rfl) (pe_op op_add (pv 2) pe_int))))
    (pss_one (ps_ret (pv 2)))))), ?_⟩
  rw [show start ["_law_due", "_law_few", "_law_d"] [.ref a] = [some (.ref a), none, none] from rfl]
  try walk_at "WP"
  intro z hz
  have smz := same_new hz (.lst [V.int 0])
  have haz := smz _ _ ha
  have hzz : upd H z (.lst [V.int 0]) z = some (.lst [V.int 0]) := upd_same
  generalize upd H z (.lst [V.int 0]) = Hz at smz haz hzz ⊢
  refine ⟨⟨_, SqL.of haz⟩, ?_⟩
  refine comp_newL (SqL.of haz) (by rw [List.length_map]; exact le_big (by omega)) (liI fun n => ((wn n : Nat) : Int)) (fun x H' R hx hS' hR => ?_) (fun acc H' hacc sm hac => ?_)
  · obtain ⟨n, hn, rfl⟩ := List.mem_map.mp hx
    try walk_at "WP"
    exact ⟨n, rfl, hb n hn, fun H5 s5 => hR H5 s5⟩
  try walk_at "WP"
  rw [liI_map] at hac
  refine ⟨_, sm _ _ hzz, _, hac, by simp only [List.length_map, List.length_cons, List.length_nil]; exact le_big (by omega), fun l hl2 => ?_⟩
  have sml := same_new hl2 (.lst ([V.int 0] ++ (ns.map fun n => ((wn n : Nat) : Int)).map V.int))
  have hll : upd H' l (.lst ([V.int 0] ++ (ns.map fun n => ((wn n : Nat) : Int)).map V.int)) l = some (.lst ((0 :: ns.map fun n => ((wn n : Nat) : Int)).map V.int)) := upd_same
  generalize upd H' l (.lst ([V.int 0] ++ (ns.map fun n => ((wn n : Nat) : Int)).map V.int)) = Hl at sml hll ⊢
  have smH := (smz.trans sm).trans sml
  refine ⟨l, _, rfl, hll, by simp, fun n hn => ?_, ?_⟩
  · rcases List.mem_cons.mp hn with e | e
    · rw [e]; exact Int.le_refl 0
    · obtain ⟨m, _, rfl⟩ := List.mem_map.mp e
      exact Int.natCast_nonneg _
  have ef : mz (0 :: ns.map fun n => ((wn n : Nat) : Int)) = mz (ns.map fun n => ((wn n : Nat) : Int)) := by
    have := mz_nonneg (ns.map fun n => ((wn n : Nat) : Int))
    rw [mz, if_neg (by omega)]
  rw [ef]
  have hld := ld_few ns
  have hfb : mz (ns.map fun n => ((wn n : Nat) : Int)) ≤ 5001 := by
    by_cases he : ns = []
    · subst he; decide
    · obtain ⟨m, hm, e⟩ := List.mem_map.mp (mz_mem (ns := ns.map fun n => ((wn n : Nat) : Int)) (by simpa using he) (by
        intro n hn
        obtain ⟨m, _, rfl⟩ := List.mem_map.mp hn
        exact Int.natCast_nonneg _))
      have := wn_bound (hb m hm)
      omega
  have hh20 : halN (mz (ns.map fun n => ((wn n : Nat) : Int))) ≤ 20 := hal_iff.mpr (Int.le_trans hfb (by decide))
  generalize mz (ns.map fun n => ((wn n : Nat) : Int)) = few at hld hh20 ⊢
  try walk_at "WP"
  refine whl (fun m σ H2 => ∃ d : Nat, σ = [some (.ref a), some (.int few), some (.int d)] ∧ m = halN few - d ∧ d ≤ halN few ∧ H2 = Hl) (halN few) ⟨0, rfl, by omega, by omega, rfl⟩ ?_
  rintro m σ H2 N ⟨d, rfl, rfl, hd, rfl⟩ hN
  try walk_at "WP"
  have hi := hal_iff (c := few) (d := d)
  refine ⟨⟨by omega, by omega⟩, ?_⟩
  rw [show (1 : Int) * 2 ^ (d : Int).toNat = 2 ^ d by rw [Int.one_mul, Int.toNat_natCast]]
  refine ite2 (fun z2 => ?_) (fun z2 => ?_)
  · have hnd : ¬ halN few ≤ d := fun z3 => by
      have := hi.mp z3
      omega
    exact hN (halN few - (d + 1)) _ _ (by omega) ⟨d + 1, by simp, rfl, by omega, rfl⟩
  · have : halN few ≤ d := hi.mpr (by omega)
    have e : d = halN few := by omega
    rw [e, ← hld]
    exact q _ smH
end

section
variable {P : Program} {w : World} {K : PySem.W.Frag} {mg : Str → Option Value} {base : Heap}
theorem ok_bound (T : Txt K mg) : Cal P w K mg base 4 "_law_bound" ["_law_due"] spBound := by
  have B := T.bl
  have C_l_least := ok_lleast (P := P) (w := w) (base := base) T
  refine mkCal T.t_l_bound sc_l_bound (fun vs H Q E h => ?_) (fun f cdv A outer s H vs Q E hr h => ?_)
  · obtain ⟨a, xs, rfl, _⟩ := h
    rfl
  obtain ⟨a, xs, rfl, ha, hl, hb, q⟩ := h
  refine ⟨_, (pss_one (ps_ret (pe_callB (call_sum rfl) rfl B.sum bo_sum (pa_cons (pe_comp0 (N := ["_law_number_here"]) (nt := 1) (cs := []) rfl (pi_list (pv 0)) (fun nd C s H fp => ⟨(pg_name (i := 0) nd rfl (by first | exact Or.inl rfl | exact Or.inr rfl)), (pn_one (pt_cmpR op_ne (pv 0) pe_int (nomark _))), (pe_op op_sub (pe_cal C_l_least hr rfl (pa_cons (pv 0) pa_nil)) pe_int)⟩) (by decide +kernel) (by first | rfl | decide +kernel) (by first | rfl | decide +kernel) rfl (fun _ => rfl)) pa_nil)))), ?_⟩
  rw [show start ["_law_due"] [.ref a] = [some (.ref a)] from rfl]
  try walk_at "WP"
  refine ⟨⟨_, SqL.of ha⟩, ?_⟩
  refine comp_newL (SqL.of ha) (by rw [List.length_map]; exact le_big (by omega)) bndV (fun x H' R hx hS' hR => ?_) (fun acc H' hacc sm hac => ?_)
  · obtain ⟨n, hn, rfl⟩ := List.mem_map.mp hx
    try walk_at "WP"
    refine ite2 (fun c => ?_) (fun c => ?_)
    · refine ⟨n, rfl, big_of (hb n hn) (by decide), fun H5 s5 => ?_⟩
      try walk_at "WP"
      have := hR H5 s5
      rw [bndV_ne c] at this
      exact this
    · have := hR H' fun _ _ z => z
      rw [Decidable.not_not.mp c] at this
      exact this
  try walk_at "WP"
  rw [bndV_map] at hac
  exact ⟨acc, _, rfl, hac, q H' sm⟩
end

section
variable {P : Program} {w : World} {K : PySem.W.Frag} {mg : Str → Option Value} {base : Heap}
theorem ok_core (T : Txt K mg) : Cal P w K mg base 1 "core" ["number"] spCoreT := by
  have B := T.bl
  refine mkCal T.t_core sc_core (fun vs H Q E h => ?_) (fun f cdv A outer s H vs Q E hr h => ?_)
  · obtain ⟨n, rfl, _⟩ := h
    rfl
  obtain ⟨n, rfl, q0⟩ := h
  have q : ∀ p, H p = none → Q (.ref p) (upd H p (.tup ((coreL n).map V.int))) := fun p hp => by
    rw [core_three]
    exact q0 p hp
  refine ⟨_, (pss_cons (ps_if (pt_cmpR op_eq (pv 0) pe_int (nomark _)) (pss_one (ps_ret (pe_tup (pa_cons pe_int (pa_cons pe_int (pa_cons pe_int pa_nil)))))) pss_nil)
    (pss_cons (ps_set (i := 1) sc_core.nd rfl (by first | exact Or.inl rfl | exact Or.inr rfl) (pe_callB call_abs rfl B.abs bo_abs (pa_cons (pv 0) pa_nil)))
    (pss_cons (ps_set (i := 2) sc_core.nd rfl (by first | exact Or.inl rfl | exact Or.inr rfl) (pe_op op_sub (pe_bm0 PySem.F.plainAttrs_int PyProof.Rows.slot_int_bit_length PyProof.Rows.type_int_bit_length mt_bits (pe_op op_and (pv 1) (pe_un un_neg (pv 1)))) pe_int))
    (pss_cons (ps_set (i := 3) sc_core.nd rfl (by first | exact Or.inl rfl | exact Or.inr rfl) (pe_ifExp (pt_cmpR op_gt (pv 0) pe_int (nomark _)) pe_int (pe_un un_neg pe_int)))
    (pss_one (ps_ret (pe_tup (pa_cons (pe_op op_shr (pv 1) (pv 2)) (pa_cons (pv 2) (pa_cons (pv 3) pa_nil)))))))))), ?_⟩
  rw [show start ["number", "size", "shift", "sign"] [.int n] = [some (.int n), none, none, none] from rfl]
  try walk_at "WP"
  refine ite2 (fun c => ?_) (fun c => ?_)
  · intro p hp
    have := q p hp
    rw [show coreL n = [0, 0, 0] by unfold coreL; rw [if_pos c]] at this
    exact this
  · obtain ⟨m, k, e1, e2⟩ := core_fact c
    have el : lowK n = (k : Int) := by
      unfold coreL at e2
      rw [if_neg c] at e2
      simp only [List.cons.injEq] at e2
      exact e2.2.1
    have e3 : coreL n = [absI n / 2 ^ (lowK n).toNat, lowK n, if 0 < n then 1 else -1] := by unfold coreL; rw [if_neg c]
    rw [e3] at q
    have ge : 0 ≤ lowK n := by omega
    refine ite2 (fun d => ?_) (fun d => ?_)
    · rw [if_pos d] at q
      exact ⟨ge, q⟩
    · rw [if_neg d] at q
      exact ⟨ge, q⟩
end

section
variable {P : Program} {w : World} {K : PySem.W.Frag} {mg : Str → Option Value} {base : Heap}
theorem ok_deedof (T : Txt K mg) : Cal P w K mg base 1 "deed_of" ["one", "other"] spDeedOf := by
  have B := T.bl
  refine mkCal T.t_deed_of sc_deed_of (fun vs H Q E h => ?_) (fun f cdv A outer s H vs Q E hr h => ?_)
  · obtain ⟨x, y, a, b, t, u, g, h, rfl, _⟩ := h
    rfl
  obtain ⟨x, y, a, b, t, u, g, h, rfl, hx, hy, hg, hh, q⟩ := h
  refine ⟨_, (pss_cons (ps_if (pt_cmpR op_eq (pe_ix ix_U (pv 0) pe_int (fun _ _ => rfl)) (pe_ix ix_U (pv 1) pe_int (fun _ _ => rfl)) (nomark _)) (pss_one (ps_ret (pe_tup (pa_cons pe_str (pa_cons (pe_ix ix_U (pv 0) pe_int (fun _ _ => rfl)) (pa_cons (pe_ix ix_U (pv 0) pe_int (fun _ _ => rfl)) (pa_cons (pe_ix ix_U (pv 1) pe_int (fun _ _ => rfl)) (pa_cons (pe_ix ix_U (pv 1) pe_int (fun _ _ => rfl)) pa_nil)))))))) pss_nil)
    (pss_cons (ps_if (pt_cmpR op_eq (pe_ix ix_U (pv 0) pe_int (fun _ _ => rfl)) pe_int (nomark _)) (pss_one (ps_ret (pe_tup (pa_cons pe_str (pa_cons (pe_ix ix_U (pv 0) pe_int (fun _ _ => rfl)) (pa_cons (pe_ix ix_U (pv 0) pe_int (fun _ _ => rfl)) (pa_cons (pe_ix ix_U (pv 1) pe_int (fun _ _ => rfl)) (pa_cons (pe_ix ix_U (pv 1) pe_int (fun _ _ => rfl)) pa_nil)))))))) pss_nil)
    (pss_one (ps_ret (pe_tup (pa_cons pe_str (pa_cons (pe_ix ix_U (pv 1) pe_int (fun _ _ => rfl)) (pa_cons (pe_ix ix_U (pv 1) pe_int (fun _ _ => rfl)) (pa_cons (pe_ix ix_U (pv 0) pe_int (fun _ _ => rfl)) (pa_cons (pe_ix ix_U (pv 0) pe_int (fun _ _ => rfl)) pa_nil)))))))))), ?_⟩
  rw [show start ["one", "other"] [.ref x, .ref y] = [some (.ref x), some (.ref y)] from rfl]
  (iterate 5 ((try (walk_at "WP")); (try (simp only [hx, hy, Option.some.injEq, HO.tup.injEq, HO.lst.injEq, HO.dK.injEq, exists_eq_left', exists_eq_left])))); (try (walk_at "WP"))
  unfold deedOf at q
  rcases hg with e | e <;> rcases hh with e2 | e2 <;> subst e <;> subst e2
  · try walk_at "WP"
    exact q
  · try walk_at "WP"
    exact q
  · try walk_at "WP"
    exact q
  · try walk_at "WP"
    exact q
theorem ok_uc (T : Txt K mg) : Cal P w K mg base 2 "unlike_cores" ["numbers"] spUC := by
  have B := T.bl
  have C_core := ok_core (P := P) (w := w) (base := base) T
  refine mkCal T.t_unlike_cores sc_unlike_cores (fun vs H Q E h => ?_) (fun f cdv A outer s H vs Q E hr h => ?_)
  · obtain ⟨a, xs, rfl, _⟩ := h
    rfl
  obtain ⟨a, xs, rfl, ha, hl, q⟩ := h
  refine ⟨_, (pss_cons (ps_set (i := 1) sc_unlike_cores.nd rfl (by first | exact Or.inl rfl | exact Or.inr rfl) pe_dnewK)
    (pss_cons (ps_for PassesOwn.never rfl (pi_list (pv 0)) (pg_name (i := 2) sc_unlike_cores.nd rfl (by first | exact Or.inl rfl | exact Or.inr rfl)) (pss_one (ps_if (pt_cmpR op_ne (pv 2) pe_int (nomark _)) (pss_one (ps_dpM (hu_of hr) (pv 1) (pe_ix ix_U (pe_cal C_core hr rfl (pa_cons (pv 2) pa_nil)) pe_int (fun _ _ => rfl)) pe_bl rfl)) pss_nil)))
    (pss_one (ps_ret (pe_callTy (call_list_keys rfl) rfl B.list bo_list (pa_cons (pv 1) pa_nil)))))), ?_⟩
  rw [show start ["numbers", "found", "number"] [.ref a] = [some (.ref a), none, none] from rfl]
  try walk_at "WP"
  intro d hd0
  have smd := same_new hd0 (.dK [])
  have had := smd _ _ ha
  refine ⟨⟨_, SqL.of had⟩, ?_⟩
  refine forL (xs := xs.map V.int) (fun i σ H' => ∃ o, σ = [some (.ref a), some (.ref d), o] ∧ H' d = some (.dK (ukv (uc (xs.take i)))) ∧ Same H H') ⟨none, rfl, by rw [upd_same]; rfl, smd⟩ (fun i σ H' _ z => by obtain ⟨_, _, _, s⟩ := z; exact SqL.of (s _ _ ha)) ?_ ?_
  · rintro i x σ H' N hx ⟨o, rfl, hd, SH⟩ hN
    rw [List.getElem?_map] at hx
    cases hn : xs[i]? with
    | none => rw [hn] at hx; cases hx
    | some n =>
      rw [hn] at hx
      cases hx
      have htk : xs.take (i + 1) = xs.take i ++ [n] := by rw [List.take_add_one, hn]; rfl
      have hi : i < xs.length := (List.getElem?_eq_some_iff.mp hn).1
      rw [htk] at hN
      simp only [uc_snoc] at hN
      try walk_at "WP"
      refine ite2 (fun c => ?_) (fun c => ?_)
      · refine ⟨n, rfl, fun p hp => ?_⟩
        have smp := same_new hp (.tup [V.int (coreN n), V.int (shN n), V.int (sgN n)])
        have hdp := smp _ _ hd
        (iterate 5 ((try (walk_at "WP")); (try (simp only [hdp, Option.some.injEq, HO.tup.injEq, HO.lst.injEq, HO.dK.injEq, exists_eq_left', exists_eq_left])))); (try (walk_at "WP"))
        refine ⟨by unfold ukv; rw [List.length_map]; exact lt_big (Nat.lt_of_le_of_lt (uc_len _) (by rw [List.length_take]; omega)), ?_⟩
        rw [ukv_put]
        refine hN _ _ ⟨_, rfl, ?_, same_upd hd0 (SH.trans smp)⟩
        rw [upd_same]
        unfold ucs
        rw [if_neg c]
      · refine hN _ _ ⟨_, rfl, ?_, SH⟩
        unfold ucs
        rw [if_pos (Decidable.not_not.mp c)]
        exact hd
  · rintro σ H' ⟨o, rfl, hd, SH⟩
    try walk_at "WP"
    rw [List.length_map, List.take_length] at hd
    refine ⟨d, _, rfl, hd, fun l hl => ?_⟩
    rw [ukv_keys]
    exact q l _ (SH.free hl) (SH.trans (same_new hl _)) upd_same
end

section
variable {P : Program} {w : World} {K : PySem.W.Frag} {mg : Str → Option Value} {base : Heap}
theorem ok_moved (T : Txt K mg) : Cal P w K mg base 1 "moved" ["part", "shift", "sign"] (spMovedP K) := by
  have B := T.bl
  obtain ⟨cst_NO_OUT, mg_NO_OUT, hcst⟩ := T.c_NO_OUT
  refine mkCal T.t_moved sc_moved (fun vs H Q E h => ?_) (fun f cdv A outer s H vs Q E hr h => ?_)
  · obtain ⟨p, a, b, c, s, g, rfl, _⟩ := h
    rfl
  obtain ⟨p, a, b, c, sh, g, rfl, hp, hz, c1, c2, q⟩ := h
  refine ⟨_, (pss_cons (ps_if (pt_cmpR op_eq (pe_op op_mulB (pe_ix ix_U (pv 0) pe_int (fun _ _ => rfl)) (pv 2)) pe_int (nomark _)) (pss_one (ps_ret (pe_glob (v := .ref cst_NO_OUT) rfl mg_NO_OUT rfl))) pss_nil)
    (pss_one (ps_ret (pe_tup (pa_cons (pe_ix ix_U (pv 0) pe_int (fun _ _ => rfl)) (pa_cons (pe_op op_add (pe_ix ix_U (pv 0) pe_int (fun _ _ => rfl)) (pv 1)) (pa_cons (pe_op op_mulB (pe_ix ix_U (pv 0) pe_int (fun _ _ => rfl)) (pv 2)) pa_nil))))))), ?_⟩
  rw [show start ["part", "shift", "sign"] [.ref p, .int sh, .int g] = [some (.ref p), some (.int sh), some (.int g)] from rfl]
  (iterate 5 ((try (walk_at "WP")); (try (simp only [hp, Option.some.injEq, HO.tup.injEq, HO.lst.injEq, HO.dK.injEq, exists_eq_left', exists_eq_left])))); (try (walk_at "WP"))
  refine ⟨mul_l c1 c2, ?_⟩
  rw [if_neg hz]
  exact ⟨mul_l c1 c2, q⟩
theorem ok_outfor (T : Txt K mg) : Cal P w K mg base 2 "out_for" ["number", "parts"] (spOutP K) := by
  have B := T.bl
  obtain ⟨cst_NO_OUT, mg_NO_OUT, hcst⟩ := T.c_NO_OUT
  have C_core := ok_core (P := P) (w := w) (base := base) T
  have C_moved := ok_moved (P := P) (w := w) (base := base) T
  refine mkCal T.t_out_for sc_out_for (fun vs H Q E h => ?_) (fun f cdv A outer s H vs Q E hr h => ?_)
  · obtain ⟨n, t, kvs, fd, ns, rfl, _⟩ := h
    rfl
  obtain ⟨n, t, kvs, fd, ns, rfl, ht, hD, hb, hk, q⟩ := h
  refine ⟨_, (pss_cons (ps_if (pt_cmpR op_eq (pv 0) pe_int (nomark _)) (pss_one (ps_ret (pe_glob (v := .ref cst_NO_OUT) rfl mg_NO_OUT rfl))) pss_nil)
    (pss_cons (ps_set (i := 2) sc_out_for.nd rfl (by first | exact Or.inl rfl | exact Or.inr rfl) (pe_cal C_core hr rfl (pa_cons (pv 0) pa_nil)))
    (pss_one (ps_ret (pe_cal C_moved hr rfl (pa_cons (pe_dgM (hu_of hr) (pv 1) (pe_ix ix_U (pv 2) pe_int (fun _ _ => rfl)) (fun _ _ => rfl)) (pa_cons (pe_ix ix_U (pv 2) pe_int (fun _ _ => rfl)) (pa_cons (pe_ix ix_U (pv 2) pe_int (fun _ _ => rfl)) pa_nil)))))))), ?_⟩
  rw [show start ["number", "parts", "found"] [.int n, .ref t] = [some (.int n), some (.ref t), none] from rfl]
  try walk_at "WP"
  refine ite2 (fun c => ?_) (fun c => ?_)
  · exact q _ 0 0 0 _ (CT0.sq hcst H) ⟨.inl ⟨c, rfl, rfl, rfl⟩⟩ (fun z => absurd c z) (fun _ _ z => z)
  · refine ⟨n, rfl, fun p hp => ?_⟩
    have smp := same_new hp (.tup [V.int (coreN n), V.int (shN n), V.int (sgN n)])
    have htp := smp _ _ ht
    have hDp := hD.same smp
    have hpp : upd H p (.tup [V.int (coreN n), V.int (shN n), V.int (sgN n)]) p = some (.tup [V.int (coreN n), V.int (shN n), V.int (sgN n)]) := upd_same
    generalize upd H p (.tup [V.int (coreN n), V.int (shN n), V.int (sgN n)]) = H1 at smp htp hpp hDp ⊢
    obtain ⟨k, hk1, hk2⟩ := hk c
    obtain ⟨c1, c2, j, c3, c4, c5, c6, c7, c8⟩ := core_props c
    obtain ⟨x, hx1, hx2⟩ := hDp.at_ _ _ hk1
    (iterate 5 ((try (walk_at "WP")); (try (simp only [hpp, htp, Option.some.injEq, HO.tup.injEq, HO.lst.injEq, HO.dK.injEq, exists_eq_left', exists_eq_left])))); (try (walk_at "WP"))
    refine ⟨_, hx1, x, _, _, _, _, _, rfl, hx2, ?_, by decide, by decide, fun r hr => ?_⟩
    · rw [Int.one_mul]
      rcases c5 with z | z <;> rw [z] <;> decide
    rw [Int.zero_add, Int.one_mul]
    refine q r k (shN n) (sgN n) _ (SqT.of upd_same) ⟨.inr ⟨c, k, j, coreN n, rfl, c3, ?_, c5, hk2, c4⟩⟩ (fun _ => hk1) (smp.trans (same_new hr _))
    have : 2 ^ j < 2 ^ 200 := Nat.lt_of_le_of_lt c7 hb
    have := (Nat.pow_lt_pow_iff_right (by decide : 1 < 2)).mp this
    omega
end

section
variable {P : Program} {w : World} {K : PySem.W.Frag} {mg : Str → Option Value} {base : Heap}
theorem ok_lsh (T : Txt K mg) : Cal P w K mg base 2 "_law_shifted" ["_law_number_here", "_law_shift"] spLSh := by
  have B := T.bl
  have C_l_whole := ok_whole (P := P) (w := w) (base := base) T
  refine mkCal T.t_l_shifted sc_l_shifted (fun vs H Q E h => ?_) (fun f cdv A outer s H vs Q E hr h => ?_)
  · obtain ⟨n, s, rfl, _⟩ := h
    rfl
  obtain ⟨n, sh, rfl, h0, h1, hb, q⟩ := h
  refine ⟨_, (pss_cons (ps_if (PW.pt (pw_or (pt_not (pt_val (pe_cal C_l_whole hr rfl (pa_cons (pv 1) pa_nil)))) (pw_or1 (pt_not (pt_chain op_le op_le (pe_un un_neg pe_int) (pv 1) pe_int))))) (pss_one (ps_ret pe_non)) pss_nil)
    (pss_cons (ps_if (pt_cmpR op_ge (pv 1) pe_int (nomark _)) (pss_one (ps_ret (pe_op op_mulB (pv 0) (pe_op op_shlB pe_int (pv 1))))) pss_nil)
    (pss_cons (ps_if (pt_cmpR op_ne (pe_op op_mod (pv 0) (pe_op op_shlB pe_int (pe_op op_sub pe_int (pv 1)))) pe_int (nomark _)) (pss_one (ps_ret pe_non)) pss_nil)
    (pss_one (ps_ret (pe_op op_fdivB (pv 0) (pe_op op_shlB pe_int (pe_op op_sub pe_int (pv 1))))))))), ?_⟩
  rw [show start ["_law_number_here", "_law_shift"] [.int n, .int sh] = [some (.int n), some (.int sh)] from rfl]
  try walk_at "WP"
  refine ⟨sh, rfl, ?_⟩
  try walk_at "WP"
  rw [if_pos (show (-4000 : Int) ≤ sh by omega)]
  try walk_at "WP"
  rw [if_neg (show ¬ ¬ sh ≤ 4000 by omega)]
  rw [if_pos h0]
  refine ⟨⟨h0, by omega⟩, ?_, ?_⟩
  · have := shl1_b (e := sh) (k := 300) h1
    exact mul_b (m := 300) (n := 301) hb (by have h2 := this.1; have h3 := this.2; have : (2 : Int) ^ 300 < 2 ^ 301 := by decide +kernel
                                             omega) (by decide)
  · rw [Int.one_mul]
    exact q
theorem ok_isth (T : Txt K mg) : Cal P w K mg base 2 "_law_is_thing" ["_law_thing", "_law_some"] spIsTh := by
  have B := T.bl
  have C_l_whole := ok_whole (P := P) (w := w) (base := base) T
  refine mkCal T.t_l_is_thing sc_l_is_thing (fun vs H Q E h => ?_) (fun f cdv A outer s H vs Q E hr h => ?_)
  · obtain ⟨k, l, us, rfl, _⟩ := h
    rfl
  obtain ⟨k, l, us, rfl, hl, h0, h1, q⟩ := h
  refine ⟨_, (pss_one (ps_ret (pe_and (pe_cal C_l_whole hr rfl (pa_cons (pv 0) pa_nil)) (pe_one (pe_chain op_le op_lt pe_int (pv 0) (pe_callB call_lenM rfl B.len bo_len (pa_cons (pv 1) pa_nil))))))), ?_⟩
  rw [show start ["_law_thing", "_law_some"] [.int k, .ref l] = [some (.int k), some (.ref l)] from rfl]
  try walk_at "WP"
  refine ⟨k, rfl, ?_⟩
  (iterate 5 ((try (walk_at "WP")); (try (simp only [hl, Option.some.injEq, HO.tup.injEq, HO.lst.injEq, HO.dK.injEq, exists_eq_left', exists_eq_left])))); (try (walk_at "WP"))
  rw [if_pos h0]
  (iterate 5 ((try (walk_at "WP")); (try (simp only [hl, Option.some.injEq, HO.tup.injEq, HO.lst.injEq, HO.dK.injEq, exists_eq_left', exists_eq_left])))); (try (walk_at "WP"))
  rw [show decide (k < (us.length : Int)) = true from decide_eq_true h1]
  exact q
end
section
variable {P : Program} {w : World} {K : PySem.W.Frag} {mg : Str → Option Value} {base : Heap}
theorem ok_ldeed (T : Txt K mg) : Cal P w K mg base 3 "_law_deed" ["_law_deed_here", "_law_some"] spLDeed := by
  have B := T.bl
  have C_l_is_thing := ok_isth (P := P) (w := w) (base := base) T
  have C_l_shifted := ok_lsh (P := P) (w := w) (base := base) T
  refine mkCal T.t_l_deed sc_l_deed (fun vs H Q E h => ?_) (fun f cdv A outer s H vs Q E hr h => ?_)
  · obtain ⟨x, l, d, ns, rfl, _⟩ := h
    rfl
  obtain ⟨x, l, ⟨g, made, gap, bb, tt⟩, ns, rfl, hx, hl, hm, hm', hg, hg', hs, hb, q⟩ := h
  unfold dTup at hx
  simp only at hx hm hm' hg hg' hs q
  have hwd : wordOf g = "sum" ∨ wordOf g = "less" := by unfold wordOf; split <;> simp
  obtain ⟨m, hm2⟩ : ∃ m, ns[made]? = some m := ⟨_, List.getElem?_eq_getElem hm⟩
  obtain ⟨m', hm2'⟩ : ∃ m, ns[bb]? = some m := ⟨_, List.getElem?_eq_getElem hm'⟩
  have hat1 : atI (ns.map V.int) (made : Int) = some (.int m) := atI_nat (by rw [List.getElem?_map, hm2]; rfl)
  have hat0 : atI (ns.map V.int) (bb : Int) = some (.int m') := atI_nat (by rw [List.getElem?_map, hm2']; rfl)
  refine ⟨_, (pss_cons (ps_if (PW.pt (pw_or (pt_not (pt_val (pe_callB call_isI rfl B.isinstance bo_isinstance (pa_cons (pv 0) (pa_cons (pe_bltn (v := .ty "tuple") rfl B.tuple bo_tuple rfl) pa_nil))))) (pw_or (pt_cmpR op_ne (pe_callB call_lenU rfl B.len bo_len (pa_cons (pv 0) pa_nil)) pe_int (nomark _)) (pw_or1 (pt_cmpR op_notIn_seq (pe_ix ix_U (pv 0) pe_int (fun _ _ => rfl)) (pe_tup (pa_cons pe_str (pa_cons pe_str pa_nil))) (by with_unfolding_all rfl)))))) (pss_one (ps_ret pe_non)) pss_nil)
    (pss_cons (ps_if (PW.pt (pw_or (pt_not (pt_val (pe_cal C_l_is_thing hr rfl (pa_cons (pe_ix ix_U (pv 0) pe_int (fun _ _ => rfl)) (pa_cons (pv 1) pa_nil))))) (pw_or1 (pt_not (pt_val (pe_cal C_l_is_thing hr rfl (pa_cons (pe_ix ix_U (pv 0) pe_int (fun _ _ => rfl)) (pa_cons (pv 1) pa_nil)))))))) (pss_one (ps_ret pe_non)) pss_nil)
    (pss_cons (ps_set (i := 2) sc_l_deed.nd rfl (by first | exact Or.inl rfl | exact Or.inr rfl) (pe_cal C_l_shifted hr rfl (pa_cons (pe_ix ix_M (pv 1) (pe_ix ix_U (pv 0) pe_int (fun _ _ => rfl)) (fun _ _ => rfl)) (pa_cons (pe_ix ix_U (pv 0) pe_int (fun _ _ => rfl)) pa_nil))))
    (pss_cons (ps_set (i := 3) sc_l_deed.nd rfl (by first | exact Or.inl rfl | exact Or.inr rfl) (pe_cal C_l_shifted hr rfl (pa_cons (pe_ix ix_M (pv 1) (pe_ix ix_U (pv 0) pe_int (fun _ _ => rfl)) (fun _ _ => rfl)) (pa_cons (pe_ix ix_U (pv 0) pe_int (fun _ _ => rfl)) pa_nil))))
    (pss_cons (ps_if (PW.pt (pw_or (pt_cmp (pc_isN (pv 2))) (pw_or1 (pt_cmp (pc_isN (pv 3)))))) (pss_one (ps_ret pe_non)) pss_nil)
    (pss_one (ps_ret (pe_op op_add (pv 2) (pe_op op_mulB (pv 3) (pe_ix ix_M (pe_lst (pa_cons (pe_un un_neg pe_int) (pa_cons pe_int pa_nil))) (pe_callTy call_int1 rfl B.int bo_int (pa_cons (pe_cmpR op_eq (pe_ix ix_U (pv 0) pe_int (fun _ _ => rfl)) pe_str (nomark _)) pa_nil)) (fun _ _ => rfl))))))))))), ?_⟩
  rw [show start ["_law_deed_here", "_law_some", "_law_one", "_law_other"] [.ref x, .ref l] = [some (.ref x), some (.ref l), none, none] from rfl]
  (iterate 5 ((try (walk_at "WP")); (try (simp only [hx, Option.some.injEq, HO.tup.injEq, HO.lst.injEq, HO.dK.injEq, exists_eq_left', exists_eq_left])))); (try (walk_at "WP"))
  rw [isI_tt hx]
  (iterate 5 ((try (walk_at "WP")); (try (simp only [hx, Option.some.injEq, HO.tup.injEq, HO.lst.injEq, HO.dK.injEq, exists_eq_left', exists_eq_left])))); (try (walk_at "WP"))
  intro t ht
  have st := same_new ht (.tup [V.str "sum", V.str "less"])
  refine in_tup (upd_same) rfl rfl ?_
  have hin : (if true then !inV (.str (wordOf g)) [V.str "sum", V.str "less"] else inV (.str (wordOf g)) [V.str "sum", V.str "less"]) = false := by
    rcases hwd with e | e <;> rw [e] <;> decide
  rw [hin]
  have hx1 := st _ _ hx
  have hl1 := st _ _ hl
  generalize upd H t (.tup [V.str "sum", V.str "less"]) = H1 at st hx1 hl1 ⊢
  (iterate 5 ((try (walk_at "WP")); (try (simp only [hx1, Option.some.injEq, HO.tup.injEq, HO.lst.injEq, HO.dK.injEq, exists_eq_left', exists_eq_left])))); (try (walk_at "WP"))
  refine ⟨made, l, _, rfl, hl1, by omega, by rw [List.length_map]; omega, ?_⟩
  (iterate 5 ((try (walk_at "WP")); (try (simp only [hx1, Option.some.injEq, HO.tup.injEq, HO.lst.injEq, HO.dK.injEq, exists_eq_left', exists_eq_left])))); (try (walk_at "WP"))
  refine ⟨bb, l, _, rfl, hl1, by omega, by rw [List.length_map]; omega, ?_⟩
  (iterate 5 ((try (walk_at "WP")); (try (simp only [hx1, hl1, Option.some.injEq, HO.tup.injEq, HO.lst.injEq, HO.dK.injEq, exists_eq_left', exists_eq_left])))); (try (walk_at "WP"))
  refine ⟨_, hat1, ?_⟩
  refine ⟨m, gap, rfl, by omega, by omega, hb m (List.mem_of_getElem? hm2), ?_⟩
  (iterate 5 ((try (walk_at "WP")); (try (simp only [hx1, hl1, Option.some.injEq, HO.tup.injEq, HO.lst.injEq, HO.dK.injEq, exists_eq_left', exists_eq_left])))); (try (walk_at "WP"))
  refine ⟨_, hat0, _, rfl, ?_⟩
  refine ⟨m', tt, rfl, by omega, by omega, hb m' (List.mem_of_getElem? hm2'), ?_⟩
  (iterate 5 ((try (walk_at "WP")); (try (simp only [hx1, hl1, Option.some.injEq, HO.tup.injEq, HO.lst.injEq, HO.dK.injEq, exists_eq_left', exists_eq_left])))); (try (walk_at "WP"))
  intro t2 ht2
  have st2 := same_new ht2 (.lst [V.int (-1), V.int 1])
  have hx2 := st2 _ _ hx1
  have ht3 : upd H1 t2 (.lst [V.int (-1), V.int 1]) t2 = some (.lst [V.int (-1), V.int 1]) := upd_same
  generalize upd H1 t2 (.lst [V.int (-1), V.int 1]) = H2 at st2 hx2 ht3 ⊢
  have hgg : (wordOf g = "sum" ∧ g = 1) ∨ (wordOf g = "less" ∧ g = -1) := by
    rcases hs with e | e
    · subst e; exact .inl ⟨rfl, rfl⟩
    · subst e; exact .inr ⟨rfl, rfl⟩
  have hsl : ¬ ("less" : Str) = "sum" := by decide
  have hdn : dnum ns ⟨g, made, gap, bb, tt⟩ = m * 2 ^ gap + m' * 2 ^ tt * g := by
    show ns.getD made 0 * 2 ^ gap + g * (ns.getD bb 0 * 2 ^ tt) = _
    rw [List.getD_eq_getElem?_getD, List.getD_eq_getElem?_getD, hm2, hm2', Int.mul_comm g]
    rfl
  rw [hdn] at q
  refine ⟨_, hx2, _, rfl, ?_⟩
  try walk_at "WP"
  refine ⟨_, ht3, ?_⟩
  rcases hgg with ⟨e, e2⟩ | ⟨e, e2⟩
  · rw [e]
    subst e2
    refine ⟨V.int 1, by rw [if_pos rfl]; rfl, ?_⟩
    try walk_at "WP"
    refine ⟨mul_r (by decide) (by decide), ?_⟩
    have := q _ (st.trans st2)
    exact this
  · rw [e, if_neg hsl]
    subst e2
    refine ⟨V.int (-1), rfl, ?_⟩
    try walk_at "WP"
    refine ⟨mul_r (by decide) (by decide), ?_⟩
    have := q _ (st.trans st2)
    exact this
end
section
variable {P : Program} {w : World} {K : PySem.W.Frag} {mg : Str → Option Value} {base : Heap}
theorem ok_lout (T : Txt K mg) : Cal P w K mg base 3 "_law_out" ["_law_out_here", "_law_some"] (spLOut K) := by
  have B := T.bl
  have C_l_whole := (ok_whole (P := P) (w := w) (base := base) T).mono (k := 2) (by decide)
  have C_l_is_thing := ok_isth (P := P) (w := w) (base := base) T
  have C_l_shifted := ok_lsh (P := P) (w := w) (base := base) T
  refine mkCal T.t_l_out sc_l_out (fun vs H Q E h => ?_) (fun f cdv A outer s H vs Q E hr h => ?_)
  · obtain ⟨x, l, n, a, b, c, ns, rfl, _⟩ := h
    rfl
  obtain ⟨x, l, n, a, b, c, ns, rfl, hx, hl, ho, hb, q⟩ := h
  refine ⟨_, (pss_cons (ps_if (PW.pt (pw_or (pt_not (pt_val (pe_callB call_isT rfl B.isinstance bo_isinstance (pa_cons (pv 0) (pa_cons (pe_bltn (v := .ty "tuple") rfl B.tuple bo_tuple rfl) pa_nil))))) (pw_or (pt_cmpR op_ne (pe_callB call_len_seq rfl B.len bo_len (pa_cons (pv 0) pa_nil)) pe_int (nomark _)) (pw_or1 (pt_not (pt_val (pe_callB (call_all rfl) rfl B.all bo_all (pa_cons (pe_comp0 (N := ["_law_part"]) (nt := 1) (cs := []) rfl (pi_tup (pv 0)) (fun nd C s H fp => ⟨(pg_name (i := 0) nd rfl (by first | exact Or.inl rfl | exact Or.inr rfl)), pn_nil, (pe_cal C_l_whole hr rfl (pa_cons (pv 0) pa_nil))⟩) (by decide +kernel) (by first | rfl | decide +kernel) (by first | rfl | decide +kernel) rfl (fun _ => rfl)) pa_nil)))))))) (pss_one (ps_ret pe_non)) pss_nil)
    (pss_cons (ps_if (pt_cmpR (op_eqD hr) (pv 0) (pe_tup (pa_cons pe_int (pa_cons pe_int (pa_cons pe_int pa_nil)))) (nomark _)) (pss_one (ps_ret pe_int)) pss_nil)
    (pss_cons (ps_if (PW.pt (pw_or (pt_not (pt_val (pe_cal C_l_is_thing hr rfl (pa_cons (pe_ix ix_tup (pv 0) pe_int (fun _ _ => rfl)) (pa_cons (pv 1) pa_nil))))) (pw_or (pt_cmpR op_notIn_seq (pe_ix ix_tup (pv 0) pe_int (fun _ _ => rfl)) (pe_tup (pa_cons (pe_un un_neg pe_int) (pa_cons pe_int pa_nil))) (by with_unfolding_all rfl)) (pw_or1 (pt_cmp (pc_isN (pe_cal C_l_shifted hr rfl (pa_cons (pe_ix ix_M (pv 1) (pe_ix ix_tup (pv 0) pe_int (fun _ _ => rfl)) (fun _ _ => rfl)) (pa_cons (pe_ix ix_tup (pv 0) pe_int (fun _ _ => rfl)) pa_nil))))))))) (pss_one (ps_ret pe_non)) pss_nil)
    (pss_one (ps_ret (pe_op op_mulB (pe_cal C_l_shifted hr rfl (pa_cons (pe_ix ix_M (pv 1) (pe_ix ix_tup (pv 0) pe_int (fun _ _ => rfl)) (fun _ _ => rfl)) (pa_cons (pe_ix ix_tup (pv 0) pe_int (fun _ _ => rfl)) pa_nil))) (pe_ix ix_tup (pv 0) pe_int (fun _ _ => rfl)))))))), ?_⟩
  rw [show start ["_law_out_here", "_law_some"] [.ref x, .ref l] = [some (.ref x), some (.ref l)] from rfl]
  try walk_at "WP"
  refine ⟨x, _, rfl, hx, ?_⟩
  try walk_at "WP"
  refine ⟨_, .inr hx, ?_⟩
  try walk_at "WP"
  refine ⟨⟨_, hx⟩, ?_⟩
  refine comp_T (f := fun _ => some (.bl true)) hx (le_big (by show 3 ≤ 100000; decide)) (fun y H' R hy hS' hR => ?_) (fun acc hacc => ?_)
  · have hi : ∃ i, y = .int i := by
      simp only [List.mem_cons, List.not_mem_nil, or_false] at hy
      rcases hy with e | e | e
      · exact ⟨_, e⟩
      · exact ⟨_, e⟩
      · exact ⟨_, e⟩
    obtain ⟨i, rfl⟩ := hi
    try walk_at "WP"
    exact ⟨i, rfl, hR⟩
  have sa := same_new hacc (.lst ([V.int a, V.int b, V.int c].filterMap fun _ => some (V.bl true)))
  have hac : upd H acc (.lst ([V.int a, V.int b, V.int c].filterMap fun _ => some (V.bl true))) acc = some (.lst ([true, true, true].map V.bl)) := upd_same
  generalize upd H acc (.lst ([V.int a, V.int b, V.int c].filterMap fun _ => some (V.bl true))) = H1 at sa hac ⊢
  refine ⟨acc, [true, true, true], rfl, hac, ?_⟩
  try walk_at "WP"
  intro z hz
  have sz := same_new hz (.tup [V.int 0, V.int 0, V.int 0])
  have S2 := sa.trans sz
  refine eqTI (ns := [a, b, c]) (ms := [0, 0, 0]) (S2.seqT hx) (SqT.of upd_same) ?_
  have hx2 := S2.seqT hx
  have hl2 := S2 _ _ hl
  generalize upd H1 z (.tup [V.int 0, V.int 0, V.int 0]) = H2 at S2 hx2 hl2 ⊢
  try walk_at "WP"
  rcases ho.ok with ⟨rfl, rfl, rfl, rfl⟩ | ⟨hn, k, j, m, rfl, rfl, hj, hc, hk, hv⟩
  · rw [if_pos ⟨rfl, rfl, rfl⟩]
    exact q _ S2
  have hne : ¬ ((k : Int) = 0 ∧ (j : Int) = 0 ∧ c = 0) := by omega
  rw [if_neg hne]
  have hkl : k < ns.length := (List.getElem?_eq_some_iff.mp hk).1
  have hatk : atI (ns.map V.int) (k : Int) = some (.int m) := atI_nat (by rw [List.getElem?_map, hk]; rfl)
  have hmb := hb m (List.mem_of_getElem? hk)
  refine ⟨_, hx2, _, rfl, ?_⟩
  refine ⟨k, l, _, rfl, hl2, by omega, by rw [List.length_map]; omega, ?_⟩
  try walk_at "WP"
  refine ⟨_, hx2, _, rfl, fun t ht => ?_⟩
  have st := same_new ht (.tup [V.int (-1), V.int 1])
  refine in_tup upd_same rfl rfl ?_
  have hin : (if true then !inV (V.int c) [V.int (-1), V.int 1] else inV (V.int c) [V.int (-1), V.int 1]) = false := by
    rcases hc with e | e <;> rw [e] <;> decide
  rw [hin]
  have S3 := S2.trans st
  have hx3 := st.seqT hx2
  have hl3 := st _ _ hl2
  generalize upd H2 t (.tup [V.int (-1), V.int 1]) = H3 at S3 hx3 hl3 ⊢
  try walk_at "WP"
  refine ⟨_, hx3, _, rfl, ?_⟩
  (iterate 5 ((try (walk_at "WP")); (try (simp only [hl3, Option.some.injEq, HO.tup.injEq, HO.lst.injEq, HO.dK.injEq, exists_eq_left', exists_eq_left])))); (try (walk_at "WP"))
  refine ⟨_, hatk, _, hx3, _, rfl, ?_⟩
  refine ⟨m, j, rfl, by omega, by omega, hmb, ?_⟩
  try walk_at "WP"
  refine ⟨_, hx3, _, rfl, ?_⟩
  (iterate 5 ((try (walk_at "WP")); (try (simp only [hl3, Option.some.injEq, HO.tup.injEq, HO.lst.injEq, HO.dK.injEq, exists_eq_left', exists_eq_left])))); (try (walk_at "WP"))
  refine ⟨_, hatk, _, hx3, _, rfl, ?_⟩
  refine ⟨m, j, rfl, by omega, by omega, hmb, ?_⟩
  try walk_at "WP"
  refine ⟨_, hx3, _, rfl, ?_⟩
  try walk_at "WP"
  refine ⟨mul_r (by omega) (by omega), ?_⟩
  rw [Int.toNat_natCast, hv]
  exact q _ S3
end
section
variable {P : Program} {w : World} {K : PySem.W.Frag} {mg : Str → Option Value} {base : Heap}
theorem ok_walked (T : Txt K mg) : Cal P w K mg base 4 "_law_walked" ["_law_web"] (spWalked K) := by
  have B := T.bl
  have C_l_whole := (ok_whole (P := P) (w := w) (base := base) T).mono (k := 3) (by decide)
  have C_l_deed := ok_ldeed (P := P) (w := w) (base := base) T
  have C_l_out := ok_lout (P := P) (w := w) (base := base) T
  refine mkCal T.t_l_walked sc_l_walked (fun vs H Q E h => ?_) (fun f cdv A outer s H vs Q E hr h => ?_)
  · obtain ⟨t, dl, ol, ds, xs, rfl, _⟩ := h
    rfl
  obtain ⟨t, dl, ol, ds, xs, rfl, hR, hl, hdl, q⟩ := h
  obtain ⟨us, hd1, hd2⟩ := hR.dls
  obtain ⟨os, ho1, ho2⟩ := hR.ols
  have ht := hR.tup
  refine ⟨_, (pss_cons (ps_if (PW.pt (pw_or (pt_not (pt_val (pe_callB call_isI rfl B.isinstance bo_isinstance (pa_cons (pv 0) (pa_cons (pe_bltn (v := .ty "tuple") rfl B.tuple bo_tuple rfl) pa_nil))))) (pw_or (pt_cmpR op_ne (pe_callB call_lenU rfl B.len bo_len (pa_cons (pv 0) pa_nil)) pe_int (nomark _)) (pw_or (pt_not (pt_val (pe_cal C_l_whole hr rfl (pa_cons (pe_ix ix_U (pv 0) pe_int (fun _ _ => rfl)) pa_nil)))) (pw_or1 (pt_cmpR op_ne (pe_ix ix_U (pv 0) pe_int (fun _ _ => rfl)) pe_int (nomark _))))))) (pss_one (ps_ret pe_non)) pss_nil)
    (pss_cons (ps_if (PW.pt (pw_or (pt_not (pt_val (pe_callB call_isI rfl B.isinstance bo_isinstance (pa_cons (pe_ix ix_U (pv 0) pe_int (fun _ _ => rfl)) (pa_cons (pe_bltn (v := .ty "list") rfl B.list bo_list rfl) pa_nil))))) (pw_or (pt_not (pt_val (pe_callB call_isI rfl B.isinstance bo_isinstance (pa_cons (pe_ix ix_U (pv 0) pe_int (fun _ _ => rfl)) (pa_cons (pe_bltn (v := .ty "list") rfl B.list bo_list rfl) pa_nil))))) (pw_or1 (pt_cmpR op_gt (pe_callB call_lenM rfl B.len bo_len (pa_cons (pe_ix ix_U (pv 0) pe_int (fun _ _ => rfl)) pa_nil)) pe_int (nomark _)))))) (pss_one (ps_ret pe_non)) pss_nil)
    (pss_cons (ps_set (i := 1) sc_l_walked.nd rfl (by first | exact Or.inl rfl | exact Or.inr rfl) (pe_lst (pa_cons pe_int pa_nil)))
    (pss_cons (ps_for PassesOwn.never rfl (pi_list (pe_ix ix_U (pv 0) pe_int (fun _ _ => rfl))) (pg_name (i := 2) sc_l_walked.nd rfl (by first | exact Or.inl rfl | exact Or.inr rfl)) (pss_cons (ps_set (i := 3) sc_l_walked.nd rfl (by first | exact Or.inl rfl | exact Or.inr rfl) (pe_cal C_l_deed hr rfl (pa_cons (pv 2) (pa_cons (pv 1) pa_nil))))
    (pss_cons (ps_if (pt_cmp (pc_isN (pv 3))) (pss_one (ps_ret pe_non)) pss_nil)
    (pss_one (ps_expr (pe_bm PySem.F.plainAttrs_list PySem.F.slot_list_append PySem.F.type_list_append mt_append (pv 1) (pa_cons (pv 3) pa_nil)))))))
    (pss_cons (ps_setComp0 (ix := 4) (N := ["_law_out_here", "_law_some"]) (nt := 1) (cs := [1]) rfl (pi_list (pe_ix ix_U (pv 0) pe_int (fun _ _ => rfl))) (fun nd C s H fp => ⟨(pg_name (i := 0) nd rfl (by first | exact Or.inl rfl | exact Or.inr rfl)), pn_nil, (pe_cal C_l_out hr rfl (pa_cons (pv 0) (pa_cons (pv 1) pa_nil)))⟩) (by decide +kernel) (by first | rfl | decide +kernel) (by first | rfl | decide +kernel) rfl (fun _ => rfl) sc_l_walked.nd rfl (by first | exact Or.inl rfl | exact Or.inr rfl) (by first | exact .inl rfl | exact .inr rfl) rfl)
    (pss_cons (ps_if (pt_cmpR op_in_seq pe_non (pv 4) (by with_unfolding_all rfl)) (pss_one (ps_ret pe_non)) pss_nil)
    (pss_one (ps_ret (pe_lst (pa_cons (pv 1) (pa_cons (pv 4) pa_nil))))))))))), ?_⟩
  rw [show start ["_law_web", "_law_some", "_law_deed_here", "_law_number_here", "_law_outs"] [.ref t] = [some (.ref t), none, none, none, none] from rfl]
  (iterate 5 ((try (walk_at "WP")); (try (simp only [ht, Option.some.injEq, HO.tup.injEq, HO.lst.injEq, HO.dK.injEq, exists_eq_left', exists_eq_left])))); (try (walk_at "WP"))
  rw [isI_tt ht]
  (iterate 5 ((try (walk_at "WP")); (try (simp only [ht, Option.some.injEq, HO.tup.injEq, HO.lst.injEq, HO.dK.injEq, exists_eq_left', exists_eq_left])))); (try (walk_at "WP"))
  refine ⟨1, rfl, ?_⟩
  (iterate 5 ((try (walk_at "WP")); (try (simp only [ht, Option.some.injEq, HO.tup.injEq, HO.lst.injEq, HO.dK.injEq, exists_eq_left', exists_eq_left])))); (try (walk_at "WP"))
  rw [isI_ll hd1]
  (iterate 5 ((try (walk_at "WP")); (try (simp only [ht, Option.some.injEq, HO.tup.injEq, HO.lst.injEq, HO.dK.injEq, exists_eq_left', exists_eq_left])))); (try (walk_at "WP"))
  rw [isI_ll ho1]
  (iterate 5 ((try (walk_at "WP")); (try (simp only [ht, Option.some.injEq, HO.tup.injEq, HO.lst.injEq, HO.dK.injEq, exists_eq_left', exists_eq_left])))); (try (walk_at "WP"))
  refine ⟨_, ho1, ?_⟩
  rw [if_neg (by rw [ho2.len]; omega)]
  try walk_at "WP"
  intro s0 hs0
  have ss := same_new hs0 (.lst [V.int 1])
  have ht1 := ss _ _ ht
  (iterate 5 ((try (walk_at "WP")); (try (simp only [ht1, Option.some.injEq, HO.tup.injEq, HO.lst.injEq, HO.dK.injEq, exists_eq_left', exists_eq_left])))); (try (walk_at "WP"))
  refine ⟨⟨_, SqL.of (ss _ _ hd1)⟩, ?_⟩
  refine forL (xs := us) (fun i σ H' => ∃ o2 o3 o4, σ = [some (.ref t), some (.ref s0), o2, o3, o4] ∧ H' s0 = some (.lst ((ev (ds.take i)).map V.int)) ∧ Same H H') ⟨none, none, none, rfl, upd_same, ss⟩ (fun i σ H' _ z => by obtain ⟨_, _, _, _, _, s⟩ := z; exact SqL.of (s _ _ hd1)) ?_ ?_
  · rintro i x σ H' N hx ⟨o2, o3, o4, rfl, hs, SH⟩ hN
    have hi : i < ds.length := by rw [← hd2.len]; exact (List.getElem?_eq_some_iff.mp hx).1
    have hdi : ds[i]? = some ds[i] := List.getElem?_eq_getElem hi
    generalize ds[i] = d at hdi
    obtain ⟨y, hy1, hy2⟩ := hd2.at_ i d hdi
    rw [hy1] at hx
    cases hx
    obtain ⟨k1, k1', k2, k2', k3⟩ := hR.ok.at_ i d hdi
    have htk : ds.take (i + 1) = ds.take i ++ [d] := by rw [List.take_add_one, hdi]; rfl
    have hlen : (ev (ds.take i)).length = i + 1 := by rw [ev_len, List.length_take]; omega
    try walk_at "WP"
    refine ⟨y, s0, d, ev (ds.take i), rfl, SH _ _ hy2, hs, by omega, by omega, k2, k2', k3, fun n hn => ?_, fun H5 s5 => ?_⟩
    · obtain ⟨k, hk, e⟩ := List.getElem_of_mem hn
      refine hR.ok.big n ?_
      have := ev_pre (ds.take i) (ds.drop i) (k := k) (n := n) (by rw [List.getElem?_eq_getElem hk, e])
      rw [List.take_append_drop] at this
      exact List.mem_of_getElem? this
    try walk_at "WP"
    have hs5 := s5 _ _ hs
    refine ⟨ty_list hs5, _, hs5, by rw [List.length_map, hlen]; exact lt_big (by omega), hN _ _ ⟨_, _, _, rfl, ?_, same_upd hs0 (SH.trans s5)⟩⟩
    rw [upd_same, htk, ev_snoc, List.map_append]
    rfl
  · rintro σ H' ⟨o2, o3, o4, rfl, hs, SH⟩
    rw [hd2.len, List.take_length] at hs
    have ht2 := SH _ _ ht
    have hol := SH _ _ ho1
    (iterate 5 ((try (walk_at "WP")); (try (simp only [ht2, Option.some.injEq, HO.tup.injEq, HO.lst.injEq, HO.dK.injEq, exists_eq_left', exists_eq_left])))); (try (walk_at "WP"))
    refine ⟨⟨_, SqL.of hol⟩, ?_⟩
    have hoo := ho2.same SH
    refine comp_inv (xs := os) (fun acc i ys H4 => H4 acc = some (.lst ys) ∧ ys = (xs.take i).map V.int ∧ i ≤ xs.length ∧ Same H' H4) (by rw [ho2.len]; exact le_big (by omega)) ?_ ?_ ?_ ?_ ?_ ?_ ?_
    · rintro acc i ys H4 hi ⟨_, _, _, s4⟩
      exact ⟨_, _, SqL.of (s4 _ _ hol), List.getElem?_eq_getElem hi⟩
    · rintro acc i ys H4 x H5 ⟨_, _, _, s4⟩ y
      exact ⟨y.1, y.2 _ (SqL.of (s4 _ _ hol))⟩
    · rintro acc ys H4 ⟨_, _, _, s4⟩
      exact ⟨_, SqL.of (s4 _ _ hol), Nat.le_refl _⟩
    · intro acc hacc
      exact ⟨upd_same, rfl, Nat.zero_le _, same_new hacc _⟩
    · rintro acc i ys H4 ⟨h1, h2, h3, _⟩
      refine ⟨h1, ?_⟩
      rw [h2, List.length_map, List.length_take]
      omega
    · rintro acc i ys H4 x R hacc hx ⟨h1, h2, h3, s4⟩ hR2 _
      have hi : i < xs.length := by rw [← ho2.len]; exact (List.getElem?_eq_some_iff.mp hx).1
      have hxi : xs[i]? = some xs[i] := List.getElem?_eq_getElem hi
      generalize xs[i] = n at hxi
      obtain ⟨y, a, b, c, e1, e2, e3⟩ := hoo.at_ i n hxi
      rw [e1] at hx
      cases hx
      have ecap : capV [1] [some (V.ref t), some (V.ref s0), o2, o3, o4] = [some (V.ref s0)] := rfl
      rw [ecap]
      try walk_at "WP"
      refine ⟨y, s0, n, a, b, c, ev ds, rfl, s4.seqT e2, s4 _ _ hs, e3, hR.ok.big, fun H5 s5 => ?_⟩
      refine hR2 _ _ (s5 _ _ h1) ⟨upd_same, ?_, hi, same_upd hacc (s4.trans s5)⟩
      rw [List.take_add_one, hxi, h2, List.map_append]
      rfl
    · rintro acc ys H4 hacc ⟨h1, h2, h3, s4⟩
      rw [ho2.len, List.take_length] at h2
      subst h2
      try walk_at "WP"
      refine ⟨acc, _, rfl, .inl (SqL.of h1), rfl, flat_ints xs, ?_⟩
      have hin : inV V.non (xs.map V.int) = false := by
        unfold inV
        rw [List.any_eq_false]
        intro v hv
        obtain ⟨n, _, rfl⟩ := List.mem_map.mp hv
        exact fun z => by cases z
      rw [if_neg (by decide), hin]
      try walk_at "WP"
      intro r hr
      have sr := same_new hr (.lst [V.ref s0, V.ref acc])
      exact q r s0 acc _ ((SH.trans s4).trans sr) upd_same (sr _ _ h1)
end

section
variable {P : Program} {w : World} {K : PySem.W.Frag} {mg : Str → Option Value} {base : Heap}
theorem ok_signof (T : Txt K mg) : Cal P w K mg base 1 "sign_of" ["one", "other"] spSignOf := by
  have B := T.bl
  refine mkCal T.t_sign_of sc_sign_of (fun vs H Q E h => ?_) (fun f cdv A outer s H vs Q E hr h => ?_)
  · obtain ⟨x, y, a, b, u, t, g, h, rfl, _⟩ := h
    rfl
  obtain ⟨x, y, a, b, u, t, g, h, rfl, hx, hy, q⟩ := h
  refine ⟨_, (pss_one (ps_ret (pe_ifExp (pt_cmpR op_eq (pe_ix ix_U (pv 0) pe_int (fun _ _ => rfl)) (pe_ix ix_U (pv 1) pe_int (fun _ _ => rfl)) (nomark _)) (pe_ix ix_U (pv 0) pe_int (fun _ _ => rfl)) pe_int))), ?_⟩
  rw [show start ["one", "other"] [.ref x, .ref y] = [some (.ref x), some (.ref y)] from rfl]
  (iterate 5 ((try (walk_at "WP")); (try (simp only [hx, hy, Option.some.injEq, HO.tup.injEq, HO.lst.injEq, HO.dK.injEq, exists_eq_left', exists_eq_left])))); (try (walk_at "WP"))
  unfold signOf at q
  refine ite2 (fun c => ?_) (fun c => ?_)
  · rw [if_pos c] at q
    exact q
  · rw [if_neg c] at q
    exact q
theorem ok_paired (T : Txt K mg) : Cal P w K mg base 2 "paired" ["deeds", "parts"] spPaired := by
  have B := T.bl
  have C_deed_of := ok_deedof (P := P) (w := w) (base := base) T
  have C_sign_of := ok_signof (P := P) (w := w) (base := base) T
  refine mkCal T.t_paired sc_paired (fun vs H Q E h => ?_) (fun f cdv A outer s H vs Q E hr h => ?_)
  · obtain ⟨dl, pl, us, ds, ws, ps, j, rfl, _⟩ := h
    rfl
  obtain ⟨dl, pl, us, ds, ws, ps, j, rfl, hdl, hds, hok, hl4, hpl, hps, pok, hj, h2, h3, hne, q⟩ := h
  refine ⟨_, (pss_cons (ps_set (i := 2) sc_paired.nd rfl (by first | exact Or.inl rfl | exact Or.inr rfl) (pe_lst pa_nil))
    (pss_mid (ps_for PassesOwn.never rfl (pi_range3 rfl B.range (pa_cons pe_int (pa_cons (pe_op op_sub (pe_callB call_lenM rfl B.len bo_len (pa_cons (pv 1) pa_nil)) pe_int) (pa_cons pe_int pa_nil)))) (pg_name (i := 3) sc_paired.nd rfl (by first | exact Or.inl rfl | exact Or.inr rfl)) (pss_cons (ps_set (i := 4) sc_paired.nd rfl (by first | exact Or.inl rfl | exact Or.inr rfl) (pe_ix ix_M (pv 1) (pv 3) (fun _ _ => rfl)))
    (pss_cons (ps_set (i := 5) sc_paired.nd rfl (by first | exact Or.inl rfl | exact Or.inr rfl) (pe_ix ix_M (pv 1) (pe_op op_add (pv 3) pe_int) (fun _ _ => rfl)))
    (pss_cons (ps_set (i := 6) sc_paired.nd rfl (by first | exact Or.inl rfl | exact Or.inr rfl) (pe_tup (pa_cons (pe_ix ix_U (pv 4) pe_int (fun _ _ => rfl)) (pa_cons pe_int (pa_cons (pe_ix ix_U (pv 4) pe_int (fun _ _ => rfl)) pa_nil)))))
    (pss_cons (ps_set (i := 7) sc_paired.nd rfl (by first | exact Or.inl rfl | exact Or.inr rfl) (pe_tup (pa_cons (pe_ix ix_U (pv 5) pe_int (fun _ _ => rfl)) (pa_cons (pe_op op_sub (pe_ix ix_U (pv 5) pe_int (fun _ _ => rfl)) (pe_ix ix_U (pv 4) pe_int (fun _ _ => rfl))) (pa_cons (pe_ix ix_U (pv 5) pe_int (fun _ _ => rfl)) pa_nil)))))
    (pss_cons (ps_expr (pe_bm PySem.F.plainAttrs_list PySem.F.slot_list_append PySem.F.type_list_append mt_append (pv 0) (pa_cons (pe_cal C_deed_of hr rfl (pa_cons (pv 6) (pa_cons (pv 7) pa_nil))) pa_nil)))
    (pss_one (ps_expr (pe_bm PySem.F.plainAttrs_list PySem.F.slot_list_append PySem.F.type_list_append mt_append (pv 2) (pa_cons (pe_tup (pa_cons (pe_callB call_lenM rfl B.len bo_len (pa_cons (pv 0) pa_nil)) (pa_cons (pe_ix ix_U (pv 4) pe_int (fun _ _ => rfl)) (pa_cons (pe_cal C_sign_of hr rfl (pa_cons (pv 6) (pa_cons (pv 7) pa_nil))) pa_nil)))) pa_nil))))))))))
    (pss_cons (ps_if (pt_cmpR op_eq (pe_op op_and (pe_callB call_lenM rfl B.len bo_len (pa_cons (pv 1) pa_nil)) pe_int) pe_int (nomark _)) (pss_one (ps_expr (pe_bm PySem.F.plainAttrs_list PySem.F.slot_list_append PySem.F.type_list_append mt_append (pv 2) (pa_cons (pe_ix ix_M (pv 1) (pe_un un_neg pe_int) (fun _ _ => rfl)) pa_nil)))) pss_nil)
    (pss_one (ps_ret (pv 2)))))), ?_⟩
  rw [show start ["deeds", "parts", "told", "place", "low", "high", "first", "second"] [.ref dl, .ref pl] = [some (.ref dl), some (.ref pl), none, none, none, none, none, none] from rfl]
  try walk_at "WP"
  intro tl htl
  have s1 := same_new htl (.lst [])
  have htd : tl ≠ dl := (ne_of_none hdl htl).symm
  have htp : tl ≠ pl := (ne_of_none hpl htl).symm
  have ht1 : upd H tl (.lst []) tl = some (.lst []) := upd_same
  have hd1 := s1 _ _ hdl
  have hp1 := s1 _ _ hpl
  generalize upd H tl (.lst []) = H1 at s1 ht1 hd1 hp1 ⊢
  refine mid_of (fun σ H' => ∃ (o3 o4 o5 o6 o7 : Option V) (us' : List V) (new : List Dd) (ws' : List V) (qs : List Pt), σ = [some (.ref dl), some (.ref pl), some (.ref tl), o3, o4, o5, o6, o7] ∧ Chg dl H H' ∧ H' dl = some (.lst us') ∧ HDs H' us' (ds ++ new) ∧ H' tl = some (.lst ws') ∧ HPs H' ws' qs ∧ H' pl = some (.lst ws) ∧ HPs H' ws ps ∧ PrI ds j ps (ps.length / 2) new qs) (fun N hN => ?_) ?_
  · try walk_at "WP"
    refine ⟨_, hp1, ?_⟩
    rw [hps.len]
    refine ⟨_, _, _, ⟨rfl, rfl, rfl⟩, ⟨by omega, by omega, by omega, by omega, rfl⟩, ?_⟩
    rw [stepN_val]
    refine forR3 (fun k σ H' => ∃ (o3 o4 o5 o6 o7 : Option V) (us' : List V) (new : List Dd) (ws' : List V) (qs : List Pt), σ = [some (.ref dl), some (.ref pl), some (.ref tl), o3, o4, o5, o6, o7] ∧ Chg dl H H' ∧ H' dl = some (.lst us') ∧ HDs H' us' (ds ++ new) ∧ H' tl = some (.lst ws') ∧ HPs H' ws' qs ∧ H' pl = some (.lst ws) ∧ HPs H' ws ps ∧ PrI ds j ps k new qs)
      ⟨none, none, none, none, none, us, [], [], [], rfl, s1.chg, hd1, by rw [List.append_nil]; exact hds.same s1, ht1, hps_nil, hp1, hps.same s1, pri_zero hok⟩ ?_ ?_
    · rintro k σ H' M hk ⟨o3, o4, o5, o6, o7, us', new, ws', qs, rfl, CC, hd, hh, ht, hq, hp, hpp, I⟩ hM
      obtain ⟨p, hpk⟩ : ∃ p, ps[2 * k]? = some p := ⟨_, List.getElem?_eq_getElem (by omega)⟩
      obtain ⟨p2, hpk2⟩ : ∃ p, ps[2 * k + 1]? = some p := ⟨_, List.getElem?_eq_getElem (by omega)⟩
      have hstep := pri_step pok hj I hpk hpk2
      have hup := pok.up _ _ _ hpk hpk2
      have pg := (pok.all p (List.mem_of_getElem? hpk)).1
      have qg := (pok.all p2 (List.mem_of_getElem? hpk2)).1
      obtain ⟨x, hx1, hx2⟩ := hpp.at_ _ p hpk
      obtain ⟨y, hy1, hy2⟩ := hpp.at_ _ p2 hpk2
      unfold pTup at hx2 hy2
      have at1 : atI ws (0 + (k : Int) * 2) = some (.ref x) := by
        rw [show (0 + (k : Int) * 2) = ((2 * k : Nat) : Int) by omega]
        exact atI_nat hx1
      have at2 : atI ws (0 + (k : Int) * 2 + 1) = some (.ref y) := by
        rw [show (0 + (k : Int) * 2 + 1) = ((2 * k + 1 : Nat) : Int) by omega]
        exact atI_nat hy1
      (iterate 5 ((try (walk_at "WP")); (try (simp only [hp, hx2, hy2, Option.some.injEq, HO.tup.injEq, HO.lst.injEq, HO.dK.injEq, exists_eq_left', exists_eq_left])))); (try (walk_at "WP"))
      refine ⟨_, at1, ?_⟩
      (iterate 5 ((try (walk_at "WP")); (try (simp only [hp, hx2, hy2, Option.some.injEq, HO.tup.injEq, HO.lst.injEq, HO.dK.injEq, exists_eq_left', exists_eq_left])))); (try (walk_at "WP"))
      refine ⟨_, at2, ?_⟩
      (iterate 5 ((try (walk_at "WP")); (try (simp only [hp, hx2, hy2, Option.some.injEq, HO.tup.injEq, HO.lst.injEq, HO.dK.injEq, exists_eq_left', exists_eq_left])))); (try (walk_at "WP"))
      have esub : ((p2.sh : Int) - (p.sh : Int)) = ((p2.sh - p.sh : Nat) : Int) := by omega
      generalize hdd : deedOf p.th 0 p.g p2.th (p2.sh - p.sh) p2.g = d at hstep
      intro f1 hf1
      have S1 := same_new hf1 (.tup [V.int p.th, V.int 0, V.int p.g])
      have ha1 : upd H' f1 (.tup [V.int p.th, V.int 0, V.int p.g]) f1 = some (.tup [V.int p.th, V.int 0, V.int p.g]) := upd_same
      have hxa := S1 _ _ hx2
      have hya := S1 _ _ hy2
      generalize upd H' f1 (.tup [V.int p.th, V.int 0, V.int p.g]) = Ha at S1 ha1 hxa hya ⊢
      (iterate 5 ((try (walk_at "WP")); (try (simp only [hxa, hya, Option.some.injEq, HO.tup.injEq, HO.lst.injEq, HO.dK.injEq, exists_eq_left', exists_eq_left])))); (try (walk_at "WP"))
      rw [esub]
      intro f2 hf2
      have S2 := same_new hf2 (.tup [V.int p2.th, V.int ((p2.sh - p.sh : Nat) : Int), V.int p2.g])
      have hb2 : upd Ha f2 (.tup [V.int p2.th, V.int ((p2.sh - p.sh : Nat) : Int), V.int p2.g]) f2 = some (.tup [V.int p2.th, V.int ((p2.sh - p.sh : Nat) : Int), V.int p2.g]) := upd_same
      generalize upd Ha f2 (.tup [V.int p2.th, V.int ((p2.sh - p.sh : Nat) : Int), V.int p2.g]) = Hb at S2 hb2 ⊢
      have SB := S1.trans S2
      refine ⟨ty_list (SB _ _ hd), f1, f2, p.th, p2.th, p2.sh - p.sh, 0, p.g, p2.g, rfl, S2 _ _ ha1, hb2, pg, qg, fun r hr => ?_⟩
      rw [hdd]
      have S3 := same_new hr (.tup (dTup d))
      have hc3 : upd Hb r (.tup (dTup d)) r = some (.tup (dTup d)) := upd_same
      generalize upd Hb r (.tup (dTup d)) = Hc at S3 hc3 ⊢
      have SC := SB.trans S3
      have hdc := SC _ _ hd
      have htc := SC _ _ ht
      have hlen : us'.length = (ds ++ new).length := hh.len
      refine ⟨_, hdc, ?_, ?_⟩
      · rw [hlen, List.length_append, I.nl]
        exact lt_big (by omega)
      have C4 : Chg dl Hc (upd Hc dl (.lst (us' ++ [V.ref r]))) := Chg.upd _
      have hd4 : upd Hc dl (.lst (us' ++ [V.ref r])) dl = some (.lst (us' ++ [V.ref r])) := upd_same
      have hh4 := ((hh.same SC).snoc hc3).chgL hdc C4
      have hq4 := (hq.same SC).chgL hdc C4
      have hpp4 := (hpp.same SC).chgL hdc C4
      have ht4 := C4 _ _ htd htc
      have hp4 := C4 _ _ hne (SC _ _ hp)
      have hx4 := C4 _ _ (ne_of (SC _ _ hx2) hdc (by intro z; cases z)) (SC _ _ hx2)
      have g1 := C4 _ _ (ne_of (S3 _ _ (S2 _ _ ha1)) hdc (by intro z; cases z)) (S3 _ _ (S2 _ _ ha1))
      have g2 := C4 _ _ (ne_of (S3 _ _ hb2) hdc (by intro z; cases z)) (S3 _ _ hb2)
      have CD : Chg dl H (upd Hc dl (.lst (us' ++ [V.ref r]))) := (CC.trans SC.chg).trans C4
      generalize upd Hc dl (.lst (us' ++ [V.ref r])) = Hd at C4 hd4 hh4 hq4 hpp4 ht4 hp4 hx4 g1 g2 CD ⊢
      refine ⟨ty_list ht4, ?_⟩
      (iterate 5 ((try (walk_at "WP")); (try (simp only [hx4, hd4, Option.some.injEq, HO.tup.injEq, HO.lst.injEq, HO.dK.injEq, exists_eq_left', exists_eq_left])))); (try (walk_at "WP"))
      refine ⟨f1, f2, _, _, _, _, p.g, p2.g, rfl, g1, g2, ?_⟩
      try walk_at "WP"
      intro p3 hp3
      have elen : (((us' ++ [V.ref r]).length : Nat) : Int) = (((ds ++ new).length + 1 : Nat) : Int) := by rw [List.length_append, hlen]; rfl
      rw [elen]
      have S5 := same_new hp3 (.tup (pTup ⟨(ds ++ new).length + 1, p.sh, signOf p.g p2.g⟩))
      have h53 : upd Hd p3 (.tup [V.int (((ds ++ new).length + 1 : Nat) : Int), V.int p.sh, V.int (signOf p.g p2.g)]) p3 = some (.tup (pTup ⟨(ds ++ new).length + 1, p.sh, signOf p.g p2.g⟩)) := upd_same
      have S5' : Same Hd (upd Hd p3 (.tup [V.int (((ds ++ new).length + 1 : Nat) : Int), V.int p.sh, V.int (signOf p.g p2.g)])) := S5
      generalize upd Hd p3 (.tup [V.int (((ds ++ new).length + 1 : Nat) : Int), V.int p.sh, V.int (signOf p.g p2.g)]) = He at S5' h53 ⊢
      have ht5 := S5' _ _ ht4
      have C6 : Chg tl He (upd He tl (.lst (ws' ++ [V.ref p3]))) := Chg.upd _
      refine ⟨_, ht5, ?_, hM _ _ ⟨_, _, _, _, _, us' ++ [V.ref r], new ++ [d], ws' ++ [V.ref p3], _, rfl, ?_, C6 _ _ htd.symm (S5' _ _ hd4), ?_, upd_same, ((hq4.same S5').snoc h53).chgL ht5 C6, C6 _ _ htp.symm (S5' _ _ hp4), (hpp4.same S5').chgL ht5 C6, hstep⟩⟩
      · rw [hq.len, I.ql]
        exact lt_big (by omega)
      · exact fun b o hb hq => by
          rw [upd_ne (ne_of_none hq htl)]
          exact S5' _ _ (CD b o hb hq)
      · rw [← List.append_assoc]
        exact (hh4.same S5').chgL ht5 C6
    · rintro σ H' ⟨o3, o4, o5, o6, o7, us', new, ws', qs, rfl, r⟩
      exact hN _ _ ⟨_, _, _, _, _, _, _, _, _, rfl, r⟩
  · rintro σ H' ⟨o3, o4, o5, o6, o7, us', new, ws', qs, rfl, CC, hd, hh, ht, hq, hp, hpp, I⟩
    (iterate 5 ((try (walk_at "WP")); (try (simp only [hp, Option.some.injEq, HO.tup.injEq, HO.lst.injEq, HO.dK.injEq, exists_eq_left', exists_eq_left])))); (try (walk_at "WP"))
    rw [and1, hpp.len]
    obtain ⟨pe1, pe2⟩ := pri_end pok h2 I
    refine ite2 (fun c => ?_) (fun c => ?_)
    · obtain ⟨p, hlast⟩ : ∃ p, ps.getLast? = some p := by
        cases hz : ps.getLast? with
        | none => rw [List.getLast?_eq_none_iff] at hz; rw [hz] at h2; simp at h2
        | some z => exact ⟨z, rfl⟩
      obtain ⟨g1, g2⟩ := pe2 p (by omega) hlast
      have hl2 := hlast
      rw [List.getLast?_eq_getElem?] at hl2
      obtain ⟨x, hx1, hx2⟩ := hpp.at_ _ p hl2
      have atm : atI ws (-1) = some (.ref x) := by
        rw [← hpp.len] at hx1
        exact atI_back (by rw [hpp.len]; omega) hx1
      refine ⟨ty_list ht, _, atm, _, ht, ?_, ?_⟩
      · rw [hq.len, I.ql]
        exact lt_big (by omega)
      have C6 : Chg tl H' (upd H' tl (.lst (ws' ++ [V.ref x]))) := Chg.upd _
      refine q tl us' new (ws' ++ [V.ref x]) (qs ++ [p]) _ (fun b o hb hq => by rw [upd_ne (ne_of_none hq htl)]; exact CC b o hb hq) htl (C6 _ _ htd.symm hd) (hh.chgL ht C6) I.ok upd_same ((hq.snoc hx2).chgL ht C6) g1 g2 I.nl ?_
      rw [List.length_append, I.ql]
      show ps.length / 2 + 1 = _
      omega
    · obtain ⟨g1, g2⟩ := pe1 (by omega)
      exact q tl us' new ws' qs _ CC htl hd hh I.ok ht hq g1 g2 I.nl (by rw [I.ql]; omega)
end

section
variable {P : Program} {w : World} {K : PySem.W.Frag} {mg : Str → Option Value} {base : Heap}
theorem ok_tree (T : Txt K mg) : Cal P w K mg base 3 "add_tree" ["deeds", "odd"] spTree := by
  have B := T.bl
  have C_signs := ok_signs (P := P) (w := w) (base := base) T
  have C_paired := ok_paired (P := P) (w := w) (base := base) T
  refine mkCal T.t_add_tree sc_add_tree (fun vs H Q E h => ?_) (fun f cdv A outer s H vs Q E hr h => ?_)
  · obtain ⟨dl, us, ds, odd, rfl, _⟩ := h
    rfl
  obtain ⟨dl, us, ds, odd, rfl, hdl, hds, hok, hl3, ho0, ho2, hob, q⟩ := h
  refine ⟨_, (pss_cons (ps_setComp0 (ix := 2) (N := ["place", "digit"]) (nt := 2) (cs := []) rfl (pi_enum rfl B.enumerate (pa_cons (pe_cal C_signs hr rfl (pa_cons (pv 1) pa_nil)) pa_nil)) (fun nd C s H fp => ⟨(pg_tupM 2 rfl (pgs_cons (pg_name (i := 0) nd rfl (by first | exact Or.inl rfl | exact Or.inr rfl)) (pgs_cons (pg_name (i := 1) nd rfl (by first | exact Or.inl rfl | exact Or.inr rfl)) pgs_nil))), (pn_one (pt_cmpR op_ne (pv 1) pe_int (nomark _))), (pe_tup (pa_cons pe_int (pa_cons (pv 0) (pa_cons (pv 1) pa_nil))))⟩) (by decide +kernel) (by first | rfl | decide +kernel) (by first | rfl | decide +kernel) rfl (fun _ => rfl) sc_add_tree.nd rfl (by first | exact Or.inl rfl | exact Or.inr rfl) (by first | exact .inl rfl | exact .inr rfl) rfl)
    (pss_cons (ps_whl PassesOwn.never (pt_cmpR op_gt (pe_callB call_lenM rfl B.len bo_len (pa_cons (pv 2) pa_nil)) pe_int (nomark _)) (pss_one (ps_set (i := 2) sc_add_tree.nd rfl (by first | exact Or.inl rfl | exact Or.inr rfl) (pe_cal C_paired hr rfl (pa_cons (pv 0) (pa_cons (pv 2) pa_nil))))))
    (pss_one (ps_ret (pe_ix ix_U (pe_ix ix_M (pv 2) pe_int (fun _ _ => rfl)) pe_int (fun _ _ => rfl)))))), ?_⟩
  rw [show start ["deeds", "odd", "parts"] [.ref dl, .int odd] = [some (.ref dl), some (.int odd), none] from rfl]
  try walk_at "WP"
  refine ⟨odd, rfl, big_of hob (by decide), fun r hr => ?_⟩
  have sm := same_new hr (.lst ((naf odd).map V.int))
  have hr1 : upd H r (.lst ((naf odd).map V.int)) r = some (.lst ((naf odd).map V.int)) := upd_same
  generalize upd H r (.lst ((naf odd).map V.int)) = H1 at sm hr1 ⊢
  have hnl : (naf odd).length ≤ 201 := naf_len 200 odd hob
  try walk_at "WP"
  refine ⟨_, SqL.of hr1, ?_⟩
  refine comp_any (naf odd).length (fun acc i ys H' => H' acc = some (.lst ys) ∧ HPs H' ys (pts ((naf odd).take i) 0) ∧ i ≤ (naf odd).length ∧ Same H1 H') (le_big (by omega)) ?_ ?_ ?_ ?_ ?_ ?_
  · rintro acc i ys H' hi ⟨_, _, _, s4⟩
    exact ⟨_, SqL.of (s4 _ _ hr1), by rw [List.length_map]; exact hi⟩
  · rintro acc ys H' ⟨_, _, _, s4⟩
    exact ⟨_, SqL.of (s4 _ _ hr1), by rw [List.length_map]; exact Nat.le_refl _⟩
  · intro acc hacc
    exact ⟨upd_same, hps_nil, Nat.zero_le _, same_new hacc _⟩
  · rintro acc i ys H' ⟨h1, h2, h3, _⟩
    refine ⟨h1, ?_⟩
    rw [h2.len, pts_len]
    exact Nat.le_trans (List.length_filter_le _ _) (by rw [List.length_take]; omega)
  · rintro acc i ys H' ts x H2 N hacc hi ⟨h1, h2, h3, s4⟩ ⟨T0, u, rfl, hT0, rfl, hu⟩ hts hN
    have hu1 := hu _ (SqL.of (s4 _ _ hr1))
    rw [List.getElem?_map] at hu1
    cases hd : (naf odd)[i]? with
    | none => rw [hd] at hu1; cases hu1
    | some d =>
      rw [hd] at hu1
      cases hu1
      have htk : (naf odd).take (i + 1) = (naf odd).take i ++ [d] := by rw [List.take_add_one, hd]; rfl
      have hpt : pts ((naf odd).take (i + 1)) 0 = pts ((naf odd).take i) 0 ++ (if d = 0 then [] else [⟨0, i, d⟩]) := by
        rw [htk, pts_snoc, List.length_take, Nat.min_eq_left (by omega), Nat.zero_add]
      obtain ⟨o1, o2, rfl⟩ : ∃ o1 o2, ts = [o1, o2] := by
        rcases ts with _ | ⟨o1, _ | ⟨o2, _ | ⟨o3, ts⟩⟩⟩
        · cases hts
        · cases hts
        · exact ⟨o1, o2, rfl⟩
        · cases hts
      have sT := same_new hT0 (.tup [V.int (i : Int), V.int d])
      have h1T := sT _ _ h1
      show gTupM 2 _ _ ([o1, o2] ++ []) _ _
      rw [List.append_nil]
      try walk_at "WP"
      refine ite2 (fun c => ?_) (fun c => ?_)
      · intro y hy
        have sy := same_new hy (.tup (pTup ⟨0, i, d⟩))
        have hyy : upd (upd H' T0 (.tup [V.int (i : Int), V.int d])) y (.tup [V.int 0, V.int (i : Int), V.int d]) y = some (.tup (pTup ⟨0, i, d⟩)) := upd_same
        have sy' : Same (upd H' T0 (.tup [V.int (i : Int), V.int d])) (upd (upd H' T0 (.tup [V.int (i : Int), V.int d])) y (.tup [V.int 0, V.int (i : Int), V.int d])) := sy
        generalize upd (upd H' T0 (.tup [V.int (i : Int), V.int d])) y (.tup [V.int 0, V.int (i : Int), V.int d]) = H5 at sy' hyy ⊢
        have h15 := sy' _ _ h1T
        refine ⟨h15, hN (ys ++ [V.ref y]) [some (V.int (i : Int)), some (V.int d)] _ rfl ⟨upd_same, ?_, hi, same_upd hacc ((s4.trans sT).trans sy')⟩⟩
        rw [hpt, if_neg c]
        exact (((h2.same sT).same sy').snoc hyy).chgL h15 (Chg.upd _)
      · refine hN ys [some (V.int (i : Int)), some (V.int d)] _ rfl ⟨h1T, ?_, hi, s4.trans sT⟩
        rw [hpt, if_pos (Decidable.not_not.mp c), List.append_nil]
        exact h2.same sT
  · rintro acc ys H' hacc ⟨h1, h2, h3, s4⟩
    rw [List.take_length] at h2
    have S4 := sm.trans s4
    have hwb : wn odd ≤ 201 := wn_bound hob
    have hw8 : halN ((wn odd : Nat) : Int) ≤ 8 := hal_iff.mpr (by have : (2 : Int) ^ 8 = 256 := by decide
                                                                  omega)
    have hw0 : wn odd ≠ 0 := fun z => by have := wn_eq0.mp z; omega
    have had : acc ≠ dl := (ne_of_none (sm _ _ hdl) hacc).symm
    have ev0 : (ev ds)[0]? = some 1 := ev_pre [] ds (k := 0) rfl
    have evz : (ev ds).getD 0 0 = 1 := by rw [List.getD_eq_getElem?_getD, ev0]; rfl
    try walk_at "WP"
    refine whl (fun m σ H2 => ∃ (pl : Addr) (ws : List V) (ps : List Pt) (j : Nat) (us' : List V) (new : List Dd), σ = [some (.ref dl), some (.int odd), some (.ref pl)] ∧ m = ps.length ∧ Chg dl H H2 ∧ H2 dl = some (.lst us') ∧ HDs H2 us' (ds ++ new) ∧ DOk (ds ++ new) ∧ H2 pl = some (.lst ws) ∧ HPs H2 ws ps ∧ PsOk (ds ++ new) j ps ∧ pl ≠ dl ∧ 1 ≤ ps.length ∧
        ps.length + new.length = wn odd ∧ halN ((ps.length : Nat) : Int) + j = halN ((wn odd : Nat) : Int) ∧ pvs (ev (ds ++ new)) ps = odd) (pts (naf odd) 0).length
      ⟨acc, ys, pts (naf odd) 0, 0, us, [], rfl, rfl, S4.chg, S4 _ _ hdl, by rw [List.append_nil]; exact hds.same S4, by rw [List.append_nil]; exact hok, h1, h2, by rw [List.append_nil]; exact ps_start ho0 hob, had, by rw [pts_len]; show 1 ≤ wn odd; omega, by rw [pts_len]; rfl, by rw [pts_len]; rfl, ?_⟩ ?_
    · rw [List.append_nil, pts_val evz, Int.pow_zero, Int.one_mul, val_naf]
    rintro m σ H2 N ⟨pl, ws, ps, j, us', new, rfl, rfl, CC, hd, hh, ok, hp, hpp, pok, hne, hp1, hcnt, hlev, hval⟩ hN
    (iterate 5 ((try (walk_at "WP")); (try (simp only [hp, Option.some.injEq, HO.tup.injEq, HO.lst.injEq, HO.dK.injEq, exists_eq_left', exists_eq_left])))); (try (walk_at "WP"))
    rw [hpp.len]
    refine ite2 (fun c => ?_) (fun c => ?_)
    · refine ⟨dl, pl, us', ds ++ new, ws, ps, j, rfl, hd, hh, ok, by rw [List.length_append]; omega, hp, hpp, pok, by omega, by omega, by omega, hne, fun t us2 new2 ws2 qs H3 C3 ht0 hd3 hh3 ok3 ht3 hq3 pok3 hval3 hn3 hq3l => ?_⟩
      try walk_at "WP"
      rw [List.append_assoc] at hh3 ok3 pok3 hval3
      have hhal := hal_half (L := ps.length) (by omega)
      refine hN qs.length _ _ (by rw [hq3l]; omega) ⟨t, ws2, qs, j + 1, us2, new ++ new2, rfl, rfl, CC.trans C3, hd3, hh3, ok3, ht3, hq3, pok3, (ne_of_none hd ht0).symm, by omega, by rw [List.length_append, hq3l, hn3]; omega, by rw [hq3l]; omega, by rw [hval3, hval]⟩
    · have hl1 : ps.length = 1 := by omega
      obtain ⟨p, rfl⟩ := List.length_eq_one_iff.mp hl1
      obtain ⟨x, hx1, hx2⟩ := hpp.at_ 0 p rfl
      have pg : p.g = 1 := pok.lst p rfl
      have pf := pok.fst p rfl
      obtain ⟨_, _, n, e, pn, _⟩ := pok.all p List.mem_cons_self
      have at0 : atI ws 0 = some (.ref x) := atI_nat (j := 0) hx1
      have hgn : (ev (ds ++ new)).getD p.th 0 = n := by rw [List.getD_eq_getElem?_getD, pn]; rfl
      rw [pvs_one] at hval
      unfold pval at hval
      rw [pg, Int.one_mul, hgn] at hval
      obtain ⟨_, en⟩ := chain_end hval ho2
      have hj : j = halN ((wn odd : Nat) : Int) := by
        have h1 : halN (((0 + 1 : Nat)) : Int) = 0 := by decide
        have hlev2 : halN (((0 + 1 : Nat)) : Int) + j = halN ((wn odd : Nat) : Int) := hlev
        rw [h1] at hlev2
        omega
      unfold pTup at hx2
      (iterate 5 ((try (walk_at "WP")); (try (simp only [hp, Option.some.injEq, HO.tup.injEq, HO.lst.injEq, HO.dK.injEq, exists_eq_left', exists_eq_left])))); (try (walk_at "WP"))
      refine ⟨_, at0, ?_⟩
      (iterate 5 ((try (walk_at "WP")); (try (simp only [hx2, Option.some.injEq, HO.tup.injEq, HO.lst.injEq, HO.dK.injEq, exists_eq_left', exists_eq_left])))); (try (walk_at "WP"))
      refine q p.th us' new H2 CC hd hh ok ?_ (by rw [pn, en]) (by rw [pf, hj])
      simp only [List.length_cons, List.length_nil] at hcnt
      omega
end

section
variable {P : Program} {w : World} {K : PySem.W.Frag} {mg : Str → Option Value} {base : Heap}
theorem ok_deep (T : Txt K mg) : Cal P w K mg base 4 "deep" ["numbers"] (spDeep K) := by
  have B := T.bl
  have C_unlike_cores := (ok_uc (P := P) (w := w) (base := base) T).mono (k := 3) (by decide)
  have C_add_tree := ok_tree (P := P) (w := w) (base := base) T
  have C_out_for := (ok_outfor (P := P) (w := w) (base := base) T).mono (k := 3) (by decide)
  refine mkCal T.t_deep sc_deep (fun vs H Q E h => ?_) (fun f cdv A outer s H vs Q E hr h => ?_)
  · obtain ⟨a, xs, rfl, _⟩ := h
    rfl
  obtain ⟨a, xs, rfl, ha, hl, hxb, q⟩ := h
  have hub : ∀ c ∈ uc xs, c.natAbs < 2 ^ 200 ∧ 0 < c ∧ c % 2 = 1 := fun c hc => by
    obtain ⟨n, hn, h0, rfl⟩ := uc_of xs c hc
    obtain ⟨c1, c2, j, c3, c4, c5, c6, c7, c8⟩ := core_props h0
    exact ⟨Nat.lt_of_le_of_lt c6 (hxb n hn), c1, c2⟩
  have hul : (uc xs).length ≤ 6 := Nat.le_trans (uc_len xs) hl
  refine ⟨_, (pss_cons (ps_set (i := 1) sc_deep.nd rfl (by first | exact Or.inl rfl | exact Or.inr rfl) (pe_lst pa_nil))
    (pss_cons (ps_set (i := 2) sc_deep.nd rfl (by first | exact Or.inl rfl | exact Or.inr rfl) pe_dnewK)
    (pss_cons (ps_for PassesOwn.never rfl (pi_list (pe_cal C_unlike_cores hr rfl (pa_cons (pv 0) pa_nil))) (pg_name (i := 3) sc_deep.nd rfl (by first | exact Or.inl rfl | exact Or.inr rfl)) (pss_one (ps_dpM (hu_of hr) (pv 2) (pv 3) (pe_tup (pa_cons (pe_cal C_add_tree hr rfl (pa_cons (pv 1) (pa_cons (pv 3) pa_nil))) (pa_cons pe_int (pa_cons pe_int pa_nil)))) rfl)))
    (pss_one (ps_ret (pe_tup (pa_cons pe_int (pa_cons (pv 1) (pa_cons (pe_comp0 (N := ["number", "parts"]) (nt := 1) (cs := [2]) rfl (pi_list (pv 0)) (fun nd C s H fp => ⟨(pg_name (i := 0) nd rfl (by first | exact Or.inl rfl | exact Or.inr rfl)), pn_nil, (pe_cal C_out_for hr rfl (pa_cons (pv 0) (pa_cons (pv 1) pa_nil)))⟩) (by decide +kernel) (by first | rfl | decide +kernel) (by first | rfl | decide +kernel) rfl (fun _ => rfl)) pa_nil))))))))), ?_⟩
  rw [show start ["numbers", "deeds", "parts", "odd"] [.ref a] = [some (.ref a), none, none, none] from rfl]
  try walk_at "WP"
  intro dl hdl
  have s1 := same_new hdl (.lst [])
  intro th hth
  have s2 := same_new hth (.dK [])
  have S2 := s1.trans s2
  have hth0 : H th = none := s1.free hth
  have hd2 := s2 _ _ (show upd H dl (.lst []) dl = some (.lst []) from upd_same)
  have ht2 : upd (upd H dl (.lst [])) th (.dK []) th = some (.dK []) := upd_same
  generalize upd (upd H dl (.lst [])) th (.dK []) = H2 at S2 hd2 ht2 ⊢
  have htd : th ≠ dl := ne_of ht2 hd2 (by intro z; cases z)
  refine ⟨a, xs, rfl, S2 _ _ ha, by omega, fun l H3 hl3 s3 hl3' => ?_⟩
  have hl0 : H l = none := S2.free hl3
  have hld : l ≠ dl := (ne_of_none hd2 hl3).symm
  have hlt : l ≠ th := (ne_of_none ht2 hl3).symm
  try walk_at "WP"
  refine ⟨⟨_, SqL.of hl3'⟩, ?_⟩
  refine forL (xs := (uc xs).map V.int) (fun i σ H' => ∃ (o : Option V) (us : List V) (ds : List Dd) (fd : List (Int × Int)) (kvs : List (Key × V)), σ = [some (.ref a), some (.ref dl), some (.ref th), o] ∧ H' dl = some (.lst us) ∧ HDs H' us ds ∧ DOk ds ∧ ds.length = costS ((uc xs).take i) ∧ H' th = some (.dK kvs) ∧ DKR H' kvs fd ∧
      (∀ c ∈ (uc xs).take i, ∃ k : Nat, fd.lookup c = some (k : Int) ∧ (ev ds)[k]? = some c ∧ (dpt ds)[k]? = some (halN (wn c : Nat))) ∧ (∀ c, c ∉ (uc xs).take i → fd.lookup c = none) ∧ fd.length ≤ i ∧ H' l = some (.lst ((uc xs).map V.int)) ∧ Same H H')
    ⟨none, [], [], [], [], rfl, s3 _ _ hd2, hds_nil, dok_nil, rfl, s3 _ _ ht2, DKR.nil, by simp, by intro c _; rfl, Nat.le_refl _, hl3', S2.trans s3⟩ (fun i σ H' _ z => by obtain ⟨_, _, _, _, _, _, _, _, _, _, _, _, _, _, _, h, _⟩ := z; exact SqL.of h) ?_ ?_
  · rintro i x σ H' N hx ⟨o, us, ds, fd, kvs, rfl, hd, hh, ok, hcost, ht, hD, hc1, hc2, hfl, hll, SH⟩ hN
    rw [List.getElem?_map] at hx
    cases hn : (uc xs)[i]? with
    | none => rw [hn] at hx; cases hx
    | some c =>
      rw [hn] at hx
      cases hx
      have hi : i < (uc xs).length := (List.getElem?_eq_some_iff.mp hn).1
      obtain ⟨cb, c0, c2⟩ := hub c (List.mem_of_getElem? hn)
      have hct : costS ((uc xs).take i) ≤ 200 * ((uc xs).take i).length := costS_le fun d hd => (hub d (List.mem_of_mem_take hd)).1
      rw [List.length_take] at hct
      try walk_at "WP"
      refine ⟨dl, us, ds, c, rfl, hd, hh, ok, by omega, c0, c2, cb, fun made us' new H4 C4 hd4 hh4 ok4 hnew hev hdep => ?_⟩
      have ht4 := C4 _ _ htd ht
      have hD4 := hD.chgL hd C4
      try walk_at "WP"
      intro y hy
      have sy := same_new hy (.tup [V.int (made : Int), V.int 0, V.int 1])
      have hyy : upd H4 y (.tup [V.int (made : Int), V.int 0, V.int 1]) y = some (.tup [V.int (made : Int), V.int 0, V.int 1]) := upd_same
      have hd5 := sy _ _ hd4
      have ht5 := sy _ _ ht4
      have hh5 := hh4.same sy
      have hD5 := hD4.same sy
      have hl5 := sy _ _ (C4 _ _ hld hll)
      have SH5 : ∀ b o, H b = some o → upd H4 y (.tup [V.int (made : Int), V.int 0, V.int 1]) b = some o := fun b o hb => sy _ _ (C4 _ _ (ne_of_none hb hdl) (SH _ _ hb))
      generalize upd H4 y (.tup [V.int (made : Int), V.int 0, V.int 1]) = H5 at hyy hd5 ht5 hh5 hD5 hl5 SH5 ⊢
      (iterate 5 ((try (walk_at "WP")); (try (simp only [ht5, Option.some.injEq, HO.tup.injEq, HO.lst.injEq, HO.dK.injEq, exists_eq_left', exists_eq_left])))); (try (walk_at "WP"))
      have hnone := hc2 c (nodup_take (uc_nodup xs) hn)
      refine ⟨by rw [hD.len]; exact lt_big (by omega), ?_⟩
      have C5 : Chg th H5 (upd H5 th (.dK (putK kvs (.inl c) (.ref y)))) := Chg.upd _
      refine hN _ _ ⟨_, us', ds ++ new, fd ++ [(c, (made : Int))], _, rfl, C5 _ _ htd.symm hd5, hh5.chgD ht5 C5, ok4, ?_, upd_same, (hD5.put hnone hyy).chgD ht5 C5, ?_, ?_, by simp; omega, C5 _ _ hlt hl5, ?_⟩
      · rw [costS_take hn, List.length_append, hcost]
        omega
      · intro d hd
        rw [List.take_add_one, hn] at hd
        rcases List.mem_append.mp hd with z | z
        · obtain ⟨k, k1, k2, k3⟩ := hc1 d z
          exact ⟨k, by rw [lk_app, k1]; rfl, ev_pre ds new k2, dpt_pre ds new k3⟩
        · have e : d = c := by simpa using z
          subst e
          exact ⟨made, by rw [lk_app, hnone]; simp, hev, hdep⟩
      · intro d hd
        rw [List.take_add_one, hn] at hd
        have h1 : d ∉ (uc xs).take i := fun z => hd (List.mem_append_left _ z)
        have h2 : ¬ d = c := fun z => hd (List.mem_append_right _ (by subst z; simp))
        rw [lk_app, hc2 d h1, if_neg h2]
        rfl
      · exact fun b o hb => C5 _ _ (ne_of_none hb hth0) (SH5 _ _ hb)
  · rintro σ H' ⟨o, us, ds, fd, kvs, rfl, hd, hh, ok, hcost, ht, hD, hc1, hc2, hfl, hll, SH⟩
    rw [List.length_map, List.take_length] at hcost hc1 hc2
    try walk_at "WP"
    have haa := SH _ _ ha
    refine ⟨⟨_, SqL.of haa⟩, ?_⟩
    refine comp_inv (xs := xs.map V.int) (fun acc i ys H4 => H4 acc = some (.lst ys) ∧ HOd K H4 ys (ev ds) (dpt ds) (xs.take i) ∧ i ≤ xs.length ∧ Same H' H4) (by rw [List.length_map]; exact le_big (by omega)) ?_ ?_ ?_ ?_ ?_ ?_ ?_
    · rintro acc i ys H4 hi ⟨_, _, _, s4⟩
      exact ⟨_, _, SqL.of (s4 _ _ haa), List.getElem?_eq_getElem hi⟩
    · rintro acc i ys H4 x H5 ⟨_, _, _, s4⟩ y
      exact ⟨y.1, y.2 _ (SqL.of (s4 _ _ haa))⟩
    · rintro acc ys H4 ⟨_, _, _, s4⟩
      exact ⟨_, SqL.of (s4 _ _ haa), Nat.le_refl _⟩
    · intro acc hacc
      exact ⟨upd_same, ⟨rfl, fun k n e => by simp at e⟩, Nat.zero_le _, same_new hacc _⟩
    · rintro acc i ys H4 ⟨h1, h2, h3, _⟩
      refine ⟨h1, ?_⟩
      rw [h2.len, List.length_take]
      omega
    · rintro acc i ys H4 x R hacc hx ⟨h1, h2, h3, s4⟩ hR _
      rw [List.getElem?_map] at hx
      cases hn : xs[i]? with
      | none => rw [hn] at hx; cases hx
      | some n =>
        rw [hn] at hx
        cases hx
        have hi : i < xs.length := (List.getElem?_eq_some_iff.mp hn).1
        have hmem := List.mem_of_getElem? hn
        have ecap : capV [2] [some (V.ref a), some (V.ref dl), some (V.ref th), o] = [some (V.ref th)] := rfl
        rw [ecap]
        try walk_at "WP"
        refine ⟨n, th, kvs, fd, ev ds, rfl, s4 _ _ ht, hD.same s4, hxb n hmem, fun h0 => (hc1 _ (uc_has xs n hmem h0)).imp fun k z => ⟨z.1, z.2.1⟩, fun r a' b' c' H5 hr hok hfd s5 => ?_⟩
        refine hR _ _ (s5 _ _ h1) ⟨upd_same, ?_, hi, same_upd hacc (s4.trans s5)⟩
        rw [List.take_add_one, hn]
        exact ((h2.same s5).snoc hr hok fun h0 => by
          obtain ⟨k, k1, _, k3⟩ := hc1 _ (uc_has xs n hmem h0)
          have := (hfd h0).symm.trans k1
          cases this
          obtain ⟨_, _, _, _, _, _, _, _, hwn⟩ := core_props h0
          exact ⟨k, rfl, by rw [k3, hwn]⟩).updL (s5 _ _ h1)
    · rintro acc ys H4 hacc ⟨h1, h2, h3, s4⟩
      rw [List.length_map, List.take_length] at h2
      try walk_at "WP"
      intro t ht
      have s5 := same_new ht (.tup [V.int 1, V.ref dl, V.ref acc])
      have S5 := s4.trans s5
      exact q t dl acc ds _ (SH.trans S5) (SH.free (s4.free ht)) hdl (SH.free hacc) ⟨upd_same, ⟨us, S5 _ _ hd, hh.same S5⟩, ⟨ys, s5 _ _ h1, (h2.same s5).fgt⟩, ok, (ne_of_none hd hacc).symm⟩ ⟨ys, s5 _ _ h1, h2.same s5⟩ hcost
end

section
variable {P : Program} {w : World} {K : PySem.W.Frag} {mg : Str → Option Value} {base : Heap}
theorem ok_ldep (T : Txt K mg) : Cal P w K mg base 1 "_law_depth" ["_law_web"] (spLDep K) := by
  have B := T.bl
  refine mkCal T.t_l_depth sc_l_depth (fun vs H Q E h => ?_) (fun f cdv A outer s H vs Q E hr h => ?_)
  · obtain ⟨t, dl, ol, ds, xs, rfl, _⟩ := h
    rfl
  obtain ⟨t, dl, ol, ds, xs, rfl, hR, hDp, hl, hdl, q⟩ := h
  obtain ⟨us, hd1, hd2⟩ := hR.dls
  obtain ⟨os, ho1, ho2⟩ := hDp
  have ht := hR.tup
  refine ⟨_, (pss_cons (ps_set (i := 1) sc_l_depth.nd rfl (by first | exact Or.inl rfl | exact Or.inr rfl) (pe_lst (pa_cons pe_int pa_nil)))
    (pss_cons (ps_for PassesOwn.never rfl (pi_list (pe_ix ix_U (pv 0) pe_int (fun _ _ => rfl))) (pg_tupM 5 rfl (pgs_cons (pg_name (i := 2) sc_l_depth.nd rfl (by first | exact Or.inl rfl | exact Or.inr rfl)) (pgs_cons (pg_name (i := 3) sc_l_depth.nd rfl (by first | exact Or.inl rfl | exact Or.inr rfl)) (pgs_cons (pg_name (i := 4) sc_l_depth.nd rfl (by first | exact Or.inl rfl | exact Or.inr rfl)) (pgs_cons (pg_name (i := 5) sc_l_depth.nd rfl (by first | exact Or.inl rfl | exact Or.inr rfl)) (pgs_cons (pg_name (i := 6) sc_l_depth.nd rfl (by first | exact Or.inl rfl | exact Or.inr rfl)) pgs_nil)))))) (pss_one (ps_expr (pe_bm PySem.F.plainAttrs_list PySem.F.slot_list_append PySem.F.type_list_append mt_append (pv 1) (pa_cons (pe_op op_add pe_int (pe_callB (call_max2 rfl) rfl B.max bo_max (pa_cons (pe_ix ix_M (pv 1) (pv 3) (fun _ _ => rfl)) (pa_cons (pe_ix ix_M (pv 1) (pv 5) (fun _ _ => rfl)) pa_nil)))) pa_nil)))))
    (pss_one (ps_ret (pe_callB (call_max1 rfl) rfl B.max bo_max (pa_cons (pe_op op_cat (pe_lst (pa_cons pe_int pa_nil)) (pe_comp0 (N := ["_law_thing", "_law_shift", "_law_sign", "_law_some"]) (nt := 3) (cs := [1]) rfl (pi_list (pe_ix ix_U (pv 0) pe_int (fun _ _ => rfl))) (fun nd C s H fp => ⟨(pg_tupK K 3 rfl (pgs_cons (pg_name (i := 0) nd rfl (by first | exact Or.inl rfl | exact Or.inr rfl)) (pgs_cons (pg_name (i := 1) nd rfl (by first | exact Or.inl rfl | exact Or.inr rfl)) (pgs_cons (pg_name (i := 2) nd rfl (by first | exact Or.inl rfl | exact Or.inr rfl)) pgs_nil)))), (pn_one (pt_cmpR op_ne (pv 2) pe_int (nomark _))), (pe_ix ix_M (pv 3) (pv 0) (fun _ _ => rfl))⟩) (by decide +kernel) (by first | rfl | decide +kernel) (by first | rfl | decide +kernel) rfl (fun _ => rfl))) pa_nil)))))), ?_⟩
  rw [show start ["_law_web", "_law_some", "_law_word", "_law_a", "_law_s", "_law_b", "_law_t"] [.ref t] = [some (.ref t), none, none, none, none, none, none] from rfl]
  (iterate 5 ((try (walk_at "WP")); (try (simp only [ht, Option.some.injEq, HO.tup.injEq, HO.lst.injEq, HO.dK.injEq, exists_eq_left', exists_eq_left])))); (try (walk_at "WP"))
  intro s0 hs0
  have ss := same_new hs0 (.lst [V.int 0])
  have ht1 := ss _ _ ht
  (iterate 5 ((try (walk_at "WP")); (try (simp only [ht1, Option.some.injEq, HO.tup.injEq, HO.lst.injEq, HO.dK.injEq, exists_eq_left', exists_eq_left])))); (try (walk_at "WP"))
  refine ⟨⟨_, SqL.of (ss _ _ hd1)⟩, ?_⟩
  refine forL (xs := us) (fun i σ H' => ∃ o2 o3 o4 o5 o6, σ = [some (.ref t), some (.ref s0), o2, o3, o4, o5, o6] ∧ H' s0 = some (.lst (((dpt (ds.take i)).map fun (n : Nat) => (n : Int)).map V.int)) ∧ Same H H') ⟨none, none, none, none, none, rfl, upd_same, ss⟩ (fun i σ H' _ z => by obtain ⟨_, _, _, _, _, _, _, s⟩ := z; exact SqL.of (s _ _ hd1)) ?_ ?_
  · rintro i x σ H' N hx ⟨o2, o3, o4, o5, o6, rfl, hs, SH⟩ hN
    have hi : i < ds.length := by rw [← hd2.len]; exact (List.getElem?_eq_some_iff.mp hx).1
    obtain ⟨d, hdi⟩ : ∃ d, ds[i]? = some d := ⟨_, List.getElem?_eq_getElem hi⟩
    obtain ⟨y, hy1, hy2⟩ := hd2.at_ i d hdi
    rw [hy1] at hx
    cases hx
    obtain ⟨k1, k1', k2, k2', k3⟩ := hR.ok.at_ i d hdi
    have htk : ds.take (i + 1) = ds.take i ++ [d] := by rw [List.take_add_one, hdi]; rfl
    have hlen : (dpt (ds.take i)).length = i + 1 := by rw [dpt_len, List.length_take]; omega
    obtain ⟨ea, hea⟩ : ∃ e, (dpt (ds.take i))[d.a]? = some e := ⟨_, List.getElem?_eq_getElem (by omega)⟩
    obtain ⟨eb, heb⟩ : ∃ e, (dpt (ds.take i))[d.b]? = some e := ⟨_, List.getElem?_eq_getElem (by omega)⟩
    have ata : atI (((dpt (ds.take i)).map fun (n : Nat) => (n : Int)).map V.int) (d.a : Int) = some (.int (ea : Int)) := atI_nat (by rw [List.getElem?_map, List.getElem?_map, hea]; rfl)
    have atb : atI (((dpt (ds.take i)).map fun (n : Nat) => (n : Int)).map V.int) (d.b : Int) = some (.int (eb : Int)) := atI_nat (by rw [List.getElem?_map, List.getElem?_map, heb]; rfl)
    have hy3 := SH _ _ hy2
    unfold dTup at hy3
    (iterate 5 ((try (walk_at "WP")); (try (simp only [hy3, hs, Option.some.injEq, HO.tup.injEq, HO.lst.injEq, HO.dK.injEq, exists_eq_left', exists_eq_left])))); (try (walk_at "WP"))
    refine ⟨ty_list hs, _, ata, _, atb, ?_⟩
    (iterate 5 ((try (walk_at "WP")); (try (simp only [hs, Option.some.injEq, HO.tup.injEq, HO.lst.injEq, HO.dK.injEq, exists_eq_left', exists_eq_left])))); (try (walk_at "WP"))
    refine ⟨_, _, ⟨rfl, rfl⟩, ?_⟩
    (iterate 5 ((try (walk_at "WP")); (try (simp only [hs, Option.some.injEq, HO.tup.injEq, HO.lst.injEq, HO.dK.injEq, exists_eq_left', exists_eq_left])))); (try (walk_at "WP"))
    refine ⟨?_, hN _ _ ⟨_, _, _, _, _, rfl, ?_, same_upd hs0 SH⟩⟩
    · rw [List.length_map, List.length_map, hlen]
      exact lt_big (by omega)
    · rw [upd_same, htk, dpt_snoc, List.map_append, List.map_append, List.getD_eq_getElem?_getD, List.getD_eq_getElem?_getD, hea, heb]
      have em : (1 + (if (eb : Int) > (ea : Int) then (eb : Int) else (ea : Int))) = ((1 + max ea eb : Nat) : Int) := by
        split <;> omega
      rw [em]
      rfl
  · rintro σ H' ⟨o2, o3, o4, o5, o6, rfl, hs, SH⟩
    rw [hd2.len, List.take_length] at hs
    have ht2 := SH _ _ ht
    have hol := SH _ _ ho1
    (iterate 5 ((try (walk_at "WP")); (try (simp only [ht2, Option.some.injEq, HO.tup.injEq, HO.lst.injEq, HO.dK.injEq, exists_eq_left', exists_eq_left])))); (try (walk_at "WP"))
    intro z hz
    have sz := same_new hz (.lst [V.int 0])
    have hzz : upd H' z (.lst [V.int 0]) z = some (.lst [V.int 0]) := upd_same
    have ht3 := sz _ _ ht2
    have hol3 := sz _ _ hol
    have hs3 := sz _ _ hs
    generalize upd H' z (.lst [V.int 0]) = Hz at sz hzz ht3 hol3 hs3 ⊢
    (iterate 5 ((try (walk_at "WP")); (try (simp only [ht3, Option.some.injEq, HO.tup.injEq, HO.lst.injEq, HO.dK.injEq, exists_eq_left', exists_eq_left])))); (try (walk_at "WP"))
    refine ⟨⟨_, SqL.of hol3⟩, ?_⟩
    refine comp_any os.length (fun acc i ys H4 => H4 acc = some (.lst ys) ∧ ys = (outD (xs.take i)).map V.int ∧ i ≤ xs.length ∧ Same Hz H4) (le_big (by rw [ho2.len]; omega)) ?_ ?_ ?_ ?_ ?_ ?_
    · rintro acc i ys H4 hi ⟨_, _, _, s4⟩
      exact ⟨_, _, SqL.of (s4 _ _ hol3), List.getElem?_eq_getElem hi⟩
    · rintro acc ys H4 ⟨_, _, _, s4⟩
      exact ⟨_, SqL.of (s4 _ _ hol3), Nat.le_refl _⟩
    · intro acc hacc
      exact ⟨upd_same, rfl, Nat.zero_le _, same_new hacc _⟩
    · rintro acc i ys H4 ⟨h1, h2, h3, _⟩
      refine ⟨h1, ?_⟩
      rw [h2, List.length_map]
      unfold outD
      rw [List.length_map]
      exact Nat.le_trans (List.length_filter_le _ _) (by rw [List.length_take]; omega)
    · rintro acc i ys H4 ts x H2 N hacc hi ⟨h1, h2, h3, s4⟩ ⟨rfl, hx⟩ hts hN
      have hx1 := hx _ (SqL.of (s4 _ _ hol3))
      have hixs : i < xs.length := by rw [← ho2.len]; exact hi
      obtain ⟨n, hn⟩ : ∃ n, xs[i]? = some n := ⟨_, List.getElem?_eq_getElem hixs⟩
      obtain ⟨y, a, b, c, e1, e2, e3, e4⟩ := ho2.at_ i n hn
      rw [e1] at hx1
      cases hx1
      have htk : xs.take (i + 1) = xs.take i ++ [n] := by rw [List.take_add_one, hn]; rfl
      obtain ⟨p1, p2, p3, rfl⟩ : ∃ p1 p2 p3, ts = [p1, p2, p3] := by
        rcases ts with _ | ⟨p1, _ | ⟨p2, _ | ⟨p3, _ | ⟨p4, ts⟩⟩⟩⟩
        · cases hts
        · cases hts
        · cases hts
        · exact ⟨p1, p2, p3, rfl⟩
        · cases hts
      have ecap : ([p1, p2, p3] : St) ++ capV [1] [some (V.ref t), some (V.ref s0), o2, o3, o4, o5, o6] = [p1, p2, p3, some (V.ref s0)] := rfl
      rw [ecap]
      have ecap2 : capV [1] [some (V.ref t), some (V.ref s0), o2, o3, o4, o5, o6] = [some (V.ref s0)] := rfl
      rw [ecap2] at hN
      try walk_at "WP"
      refine ⟨_, (SH.trans (sz.trans s4)).seqT e2, rfl, ?_⟩
      try walk_at "WP"
      have hs4 := s4 _ _ hs3
      refine ite2 (fun cc => ?_) (fun cc => ?_)
      · have hn0 : n ≠ 0 := by
          rcases e3.ok with ⟨_, _, _, z⟩ | ⟨z, _⟩
          · exact absurd z cc
          · exact z
        obtain ⟨k, rfl, hk⟩ := e4 hn0
        have atk : atI (((dpt ds).map fun (n : Nat) => (n : Int)).map V.int) (k : Int) = some (.int ((halN (wn n : Nat) : Nat) : Int)) := atI_nat (by rw [List.getElem?_map, List.getElem?_map, hk]; rfl)
        (iterate 5 ((try (walk_at "WP")); (try (simp only [hs4, Option.some.injEq, HO.tup.injEq, HO.lst.injEq, HO.dK.injEq, exists_eq_left', exists_eq_left])))); (try (walk_at "WP"))
        refine ⟨_, atk, h1, hN _ [some (V.int k), some (V.int b), some (V.int c)] _ rfl ⟨upd_same, ?_, hixs, same_upd hacc s4⟩⟩
        rw [htk, outD_snoc, if_neg hn0, List.map_append, ← h2]
        rfl
      · have hn0 : n = 0 := by
          rcases e3.ok with ⟨z, _⟩ | ⟨_, _, _, _, _, _, _, z, _⟩
          · exact z
          · exact absurd z (by omega)
        refine hN ys [some (V.int a), some (V.int b), some (V.int c)] _ rfl ⟨h1, ?_, hixs, s4⟩
        rw [htk, outD_snoc, if_pos hn0, List.append_nil]
        exact h2
    · rintro acc ys H4 hacc ⟨h1, h2, h3, s4⟩
      rw [ho2.len, List.take_length] at h2
      subst h2
      refine ⟨z, acc, _, _, rfl, rfl, s4 _ _ hzz, h1, ?_, fun l hl2 => ?_⟩
      · simp only [List.length_map, List.length_cons, List.length_nil]
        unfold outD
        rw [List.length_map]
        exact le_big (by have := List.length_filter_le (fun n : Int => decide (n ≠ 0)) xs; omega)
      have sml := same_new hl2 (.lst ([V.int 0] ++ (outD xs).map V.int))
      have hll : upd H4 l (.lst ([V.int 0] ++ (outD xs).map V.int)) l = some (.lst ((0 :: outD xs).map V.int)) := upd_same
      refine ⟨l, _, rfl, hll, by simp, outD_nonneg xs, ?_⟩
      rw [outD_ld]
      exact q _ (((SH.trans sz).trans s4).trans sml)
theorem ok_right (T : Txt K mg) : Cal P w K mg base 6 "_law_right" ["_law_web", "_law_due"] (spRightD K) := by
  have B := T.bl
  have C_l_walked := (ok_walked (P := P) (w := w) (base := base) T).mono (k := 5) (by decide)
  have C_l_bound := (ok_bound (P := P) (w := w) (base := base) T).mono (k := 5) (by decide)
  have C_l_depth := (ok_ldep (P := P) (w := w) (base := base) T).mono (k := 5) (by decide)
  have C_l_least_depth := ok_lld (P := P) (w := w) (base := base) T
  refine mkCal T.t_l_right sc_l_right (fun vs H Q E h => ?_) (fun f cdv A outer s H vs Q E hr h => ?_)
  · obtain ⟨t, dl, ol, a, ds, xs, rfl, _⟩ := h
    rfl
  obtain ⟨t, dl, ol, a, ds, xs, rfl, hR, hDp, ha, hl, hdl, hle, hb, q⟩ := h
  refine ⟨_, (pss_cons (ps_set (i := 2) sc_l_right.nd rfl (by first | exact Or.inl rfl | exact Or.inr rfl) (pe_cal C_l_walked hr rfl (pa_cons (pv 0) pa_nil)))
    (pss_cons (ps_if (PW.pt (pw_or (pt_cmp (pc_isN (pv 2))) (pw_or (pt_cmpR (op_neD hr) (pe_ix ix_M (pv 2) pe_int (fun _ _ => rfl)) (pv 1) (nomark _)) (pw_or1 (pt_cmpR op_gt (pe_callB call_lenM rfl B.len bo_len (pa_cons (pe_ix ix_U (pv 0) pe_int (fun _ _ => rfl)) pa_nil)) (pe_cal C_l_bound hr rfl (pa_cons (pv 1) pa_nil)) (nomark _)))))) (pss_one (ps_ret pe_bl)) pss_nil)
    (pss_one (ps_ret (pe_cmpR op_eq (pe_cal C_l_depth hr rfl (pa_cons (pv 0) pa_nil)) (pe_cal C_l_least_depth hr rfl (pa_cons (pv 1) pa_nil)) (nomark _)))))), ?_⟩
  rw [show start ["_law_web", "_law_due", "_law_found"] [.ref t, .ref a] = [some (.ref t), some (.ref a), none] from rfl]
  try walk_at "WP"
  refine ⟨t, dl, ol, ds, xs, rfl, hR, hl, hdl, fun r s o H1 s1 hr1 ho1 => ?_⟩
  (iterate 5 ((try (walk_at "WP")); (try (simp only [hr1, Option.some.injEq, HO.tup.injEq, HO.lst.injEq, HO.dK.injEq, exists_eq_left', exists_eq_left])))); (try (walk_at "WP"))
  refine neLI (ns := xs) (ms := xs) (SqL.of ho1) (SqL.of (s1 _ _ ha)) ?_
  try walk_at "WP"
  obtain ⟨us, hd1, hd2⟩ := (hR.same s1).dls
  have ht1 := (hR.same s1).tup
  (iterate 5 ((try (walk_at "WP")); (try (simp only [ht1, Option.some.injEq, HO.tup.injEq, HO.lst.injEq, HO.dK.injEq, exists_eq_left', exists_eq_left])))); (try (walk_at "WP"))
  refine ⟨_, hd1, a, xs, rfl, s1 _ _ ha, hl, hb, fun H2 s2 => ?_⟩
  try walk_at "WP"
  rw [if_neg (by rw [hd2.len]; omega)]
  have S2 := s1.trans s2
  refine ⟨t, dl, ol, ds, xs, rfl, hR.same S2, hDp.same S2, hl, hdl, fun H3 s3 => ?_⟩
  try walk_at "WP"
  refine ⟨a, xs, rfl, s3 _ _ (S2 _ _ ha), by omega, fun n hn => big_of (hb n hn) (by decide), fun H4 s4 => ?_⟩
  try walk_at "WP"
  have := q _ ((S2.trans s3).trans s4)
  simpa using this
theorem ok_law (T : Txt K mg) {f : Addr} {fd : FuncData} (F : Fun K "law" "law" s_law f fd) : FnOk P w K mg base CX0 20 f fd ["_law_script"] (spLaw K) := by
  have B := T.bl
  have C_l_pen := (ok_pen (P := P) (w := w) (base := base) T).mono (k := 19) (by decide)
  have C_l_numbers := (ok_numbers (P := P) (w := w) (base := base) T).mono (k := 19) (by decide)
  have C_l_right := (ok_right (P := P) (w := w) (base := base) T).mono (k := 19) (by decide)
  have C_deep := (ok_deep (P := P) (w := w) (base := base) T).mono (k := 19) (by decide)
  refine F.ok sc_law (fun vs H Q E h => ?_) (fun cdv A outer s H vs Q E hr h => ?_)
  · obtain ⟨a, ns, rfl, _⟩ := h
    rfl
  obtain ⟨a, ns, rfl, hS, h63, q⟩ := h
  refine ⟨_, (pss_cons (ps_set (i := 1) sc_law.nd rfl (by first | exact Or.inl rfl | exact Or.inr rfl) (pe_cal C_l_pen hr rfl (pa_cons (pv 0) pa_nil)))
    (pss_cons (ps_for PassesOwn.never rfl (pi_range1 rfl B.range (pa_cons pe_int pa_nil)) (pg_name (i := 2) sc_law.nd rfl (by first | exact Or.inl rfl | exact Or.inr rfl)) (pss_cons (ps_set (i := 3) sc_law.nd rfl (by first | exact Or.inl rfl | exact Or.inr rfl) (pe_cal C_l_numbers hr rfl (pa_cons (pv 1) pa_nil)))
    (pss_cons (ps_set (i := 4) sc_law.nd rfl (by first | exact Or.inl rfl | exact Or.inr rfl) (pe_callTy call_list_of rfl B.list bo_list (pa_cons (pv 3) pa_nil)))
    (pss_cons (ps_set (i := 5) sc_law.nd rfl (by first | exact Or.inl rfl | exact Or.inr rfl) (pe_cal C_deep hr rfl (pa_cons (pv 4) pa_nil)))
    (pss_cons (ps_if (PW.pt (pw_or (pt_not (pt_val (pe_cal C_l_right hr rfl (pa_cons (pv 5) (pa_cons (pv 3) pa_nil))))) (pw_or1 (pt_cmpR (op_neD hr) (pv 4) (pv 3) (nomark _))))) (pss_one (ps_ret pe_bl)) pss_nil)
    (pss_cons (ps_expr (pe_bm PySem.F.plainAttrs_list PySem.F.slot_list_append PySem.F.type_list_append mt_append (pe_ix ix_U (pv 5) pe_int (fun _ _ => rfl)) (pa_cons (pe_tup (pa_cons pe_str (pa_cons pe_int (pa_cons pe_int (pa_cons pe_int (pa_cons pe_int pa_nil)))))) pa_nil)))
    (pss_cons (ps_expr (pe_bm0 PySem.F.plainAttrs_list PySem.F.slot_list_clear PySem.F.type_list_clear mt_clear (pe_ix ix_U (pv 5) pe_int (fun _ _ => rfl))))
    (pss_cons (ps_expr (pe_bm PySem.F.plainAttrs_list PySem.F.slot_list_append PySem.F.type_list_append mt_append (pv 4) (pa_cons pe_int pa_nil)))
    (pss_one (ps_if (pt_not (pt_val (pe_cal C_l_right hr rfl (pa_cons (pe_cal C_deep hr rfl (pa_cons (pe_callTy call_list_of rfl B.list bo_list (pa_cons (pv 3) pa_nil)) pa_nil)) (pa_cons (pv 3) pa_nil))))) (pss_one (ps_ret pe_bl)) pss_nil))))))))))
    (pss_one (ps_ret (pe_and (pe_cal C_l_right hr rfl (pa_cons (pe_cal C_deep hr rfl (pa_cons (pe_lst pa_nil) pa_nil)) (pa_cons (pe_lst pa_nil) pa_nil))) (pe_one (pe_cal C_l_right hr rfl (pa_cons (pe_cal C_deep hr rfl (pa_cons (pe_lst (pa_cons pe_int pa_nil)) pa_nil)) (pa_cons (pe_lst (pa_cons pe_int pa_nil)) pa_nil))))))))), ?_⟩
  rw [show start ["_law_script", "_law_pen_here", "_law_turn", "_law_due", "_law_handed", "_law_web"] [.ref a] = [some (.ref a), none, none, none, none, none] from rfl]
  try walk_at "WP"
  refine ⟨a, rfl, fun p H1 hp sm1 P1 => ?_⟩
  try walk_at "WP"
  refine forR (fun i σ H' => ∃ o2 o3 o4 o5, σ = [some (.ref a), some (.ref p), o2, o3, o4, o5] ∧ Pen H' p a (2000 * i) ∧ Scr K H' a ns) ⟨none, none, none, none, rfl, P1.mono (by simp), hS.same sm1⟩ ?_ ?_
  · rintro i σ H' N hi ⟨o2, o3, o4, o5, rfl, PP, SS⟩ hN
    try walk_at "WP"
    refine ⟨p, a, ns, _, rfl, PP, SS, h63, by omega, fun r xs H2 hr0 hr2 hlen hxs P2 S2 C2 => ?_⟩
    try walk_at "WP"
    refine ⟨_, .inl (SqL.of hr2), fun l hl => ?_⟩
    have sml := same_new hl (.lst (xs.map V.int))
    have hll : upd H2 l (.lst (xs.map V.int)) l = some (.lst (xs.map V.int)) := upd_same
    have hr3 := sml _ _ hr2
    have P3 := P2.same sml
    have S3 := S2.same sml
    have hlr : l ≠ r := (ne_of_none hr2 hl).symm
    generalize upd H2 l (.lst (xs.map V.int)) = H3 at hll hr3 P3 S3 ⊢
    try walk_at "WP"
    refine ⟨l, xs, rfl, hll, hlen, hxs, fun t dl ol ds H4 s4 ht0 hdl0 hol0 hR hDp hcost => ?_⟩
    have hle : ((ds.length : Nat) : Int) ≤ boundI xs := by rw [hcost]; exact cost_le xs
    have hd3 : ds.length ≤ 3000 := by
      rw [hcost]
      have h1 := costS_le (us := uc xs) fun c hc => by
        obtain ⟨n, hn, h0, rfl⟩ := uc_of xs c hc
        obtain ⟨c1, c2, j, c3, c4, c5, c6, c7, c8⟩ := core_props h0
        exact Nat.lt_of_le_of_lt c6 (hxs n hn)
      have h2 := uc_len xs
      omega
    try walk_at "WP"
    refine ⟨t, dl, ol, r, ds, xs, rfl, hR, hDp, s4 _ _ hr3, by omega, hd3, hle, hxs, fun H5 s5 => ?_⟩
    try walk_at "WP"
    refine neLI (ns := xs) (ms := xs) (SqL.of (s5 _ _ (s4 _ _ hll))) (SqL.of (s5 _ _ (s4 _ _ hr3))) ?_
    have hR5 := hR.same s5
    have hll5 := s5 _ _ (s4 _ _ hll)
    have hr5 := s5 _ _ (s4 _ _ hr3)
    have P5 := (P3.same s4).same s5
    have S5 := (S3.same s4).same s5
    obtain ⟨us, hd1, hd2⟩ := hR5.dls
    obtain ⟨os, ho1, ho2⟩ := hR5.ols
    have ht1 := hR5.tup
    have htd : t ≠ dl := ne_of ht1 hd1 (by intro z; cases z)
    have hto : t ≠ ol := ne_of ht1 ho1 (by intro z; cases z)
    have hrd : r ≠ dl := ne_of_none hr3 hdl0
    have hro : r ≠ ol := ne_of_none hr3 hol0
    have hld : l ≠ dl := ne_of_none hll hdl0
    have hlo : l ≠ ol := ne_of_none hll hol0
    have keep : ∀ (b : Addr) (H6 : Hp) (us6 : List V), H6 b = some (.lst us6) → b ≠ p → ∀ vs6, Pen H6 p a (2000 * i + 1000) → Scr K H6 a ns → Pen (upd H6 b (.lst vs6)) p a (2000 * i + 1000) ∧ Scr K (upd H6 b (.lst vs6)) a ns := fun b H6 us6 hb6 hbp vs6 P6 S6 => by
      have C6 : Chg b H6 (upd H6 b (.lst vs6)) := Chg.upd _
      refine ⟨?_, S6.chg hb6 C6⟩
      obtain ⟨t6, l6, e6, r6⟩ := P6
      exact ⟨t6, l6, C6 p _ (Ne.symm hbp) e6, r6⟩
    have hdp : dl ≠ p := P3.ne hdl0
    have hop : ol ≠ p := P3.ne hol0
    have hlp : l ≠ p := P2.ne hl
    (iterate 5 ((try (walk_at "WP")); (try (simp only [ht1, Option.some.injEq, HO.tup.injEq, HO.lst.injEq, HO.dK.injEq, exists_eq_left', exists_eq_left])))); (try (walk_at "WP"))
    refine ⟨ty_list hd1, fun y hy => ?_⟩
    have sy := same_new hy (.tup [V.str "less", V.int 0, V.int 0, V.int 0, V.int 0])
    have hd6 := sy _ _ hd1
    have ho6 := sy _ _ ho1
    have ht6 := sy _ _ ht1
    have hr6 := sy _ _ hr5
    have hl6 := sy _ _ hll5
    have P6 := P5.same sy
    have S6 := S5.same sy
    generalize upd H5 y (.tup [V.str "less", V.int 0, V.int 0, V.int 0, V.int 0]) = H6 at hd6 ho6 ht6 hr6 hl6 P6 S6 ⊢
    refine ⟨_, hd6, ?_, ?_⟩
    · rw [hd2.len]
      exact lt_big (by omega)
    have dol : ol ≠ dl := hR.ap
    obtain ⟨P7, S7⟩ := keep dl H6 _ hd6 hdp (us ++ [V.ref y]) P6 S6
    have ho7 : upd H6 dl (.lst (us ++ [V.ref y])) ol = some (.lst os) := by rw [upd_ne dol]; exact ho6
    have ht7 : upd H6 dl (.lst (us ++ [V.ref y])) t = some (.tup [V.int 1, V.ref dl, V.ref ol]) := by rw [upd_ne htd]; exact ht6
    have hr7 : upd H6 dl (.lst (us ++ [V.ref y])) r = some (.lst (xs.map V.int)) := by rw [upd_ne hrd]; exact hr6
    have hl7 : upd H6 dl (.lst (us ++ [V.ref y])) l = some (.lst (xs.map V.int)) := by rw [upd_ne hld]; exact hl6
    generalize upd H6 dl (.lst (us ++ [V.ref y])) = H7 at P7 S7 ho7 ht7 hr7 hl7 ⊢
    (iterate 5 ((try (walk_at "WP")); (try (simp only [ht7, Option.some.injEq, HO.tup.injEq, HO.lst.injEq, HO.dK.injEq, exists_eq_left', exists_eq_left])))); (try (walk_at "WP"))
    refine ⟨ty_list ho7, _, ho7, ?_⟩
    obtain ⟨Pa, Sa⟩ := keep ol H7 _ ho7 hop [] P7 S7
    have hra : upd H7 ol (.lst []) r = some (.lst (xs.map V.int)) := by rw [upd_ne hro]; exact hr7
    have hla : upd H7 ol (.lst []) l = some (.lst (xs.map V.int)) := by rw [upd_ne hlo]; exact hl7
    generalize upd H7 ol (.lst []) = Ha at Pa Sa hra hla ⊢
    try walk_at "WP"
    refine ⟨ty_list hla, _, hla, ?_, ?_⟩
    · rw [List.length_map]
      exact lt_big (by omega)
    obtain ⟨Pb, Sb⟩ := keep l Ha _ hla hlp (xs.map V.int ++ [V.int 1]) Pa Sa
    have hrb : upd Ha l (.lst (xs.map V.int ++ [V.int 1])) r = some (.lst (xs.map V.int)) := by rw [upd_ne hlr.symm]; exact hra
    generalize upd Ha l (.lst (xs.map V.int ++ [V.int 1])) = Hb at Pb Sb hrb ⊢
    try walk_at "WP"
    refine ⟨_, .inl (SqL.of hrb), fun m hm => ?_⟩
    have smm := same_new hm (.lst (xs.map V.int))
    have hmm : upd Hb m (.lst (xs.map V.int)) m = some (.lst (xs.map V.int)) := upd_same
    have Pc := Pb.same smm
    have Sc := Sb.same smm
    have hrc := smm _ _ hrb
    generalize upd Hb m (.lst (xs.map V.int)) = Hc at hmm Pc Sc hrc ⊢
    refine ⟨m, xs, rfl, hmm, hlen, hxs, fun t2 dl2 ol2 ds2 Hd sd _ _ _ hRd hDd hcost2 => ?_⟩
    have hds : ds2.length = ds.length := by rw [hcost2, hcost]
    try walk_at "WP"
    refine ⟨t2, dl2, ol2, r, ds2, xs, rfl, hRd, hDd, sd _ _ hrc, by omega, by omega, by rw [hds]; exact hle, hxs, fun He se => ?_⟩
    try walk_at "WP"
    exact hN _ _ ⟨_, _, _, _, rfl, ((Pc.same sd).same se).mono (by omega), (Sc.same sd).same se⟩
  · rintro σ H' ⟨o2, o3, o4, o5, rfl, PP, SS⟩
    try walk_at "WP"
    intro e1 he1
    refine ⟨e1, [], rfl, upd_same, by simp, by simp, fun t dl ol ds H4 s4 _ _ _ hR hDp hcost => ?_⟩
    have hd0 : ds.length = 0 := hcost
    try walk_at "WP"
    intro e2 he2
    have se2 := same_new he2 (.lst [])
    refine ⟨t, dl, ol, e2, ds, [], rfl, hR.same se2, hDp.same se2, upd_same, by simp, by omega, by rw [hd0]; decide, by simp, fun H5 s5 => ?_⟩
    try walk_at "WP"
    intro e3 he3
    have b0 : ∀ x ∈ [(0 : Int)], x.natAbs < 2 ^ 200 := fun x hx => by
      simp only [List.mem_cons, List.not_mem_nil, or_false] at hx
      rw [hx]
      decide
    refine ⟨e3, [0], rfl, upd_same, by simp, b0, fun t2 dl2 ol2 ds2 H6 s6 _ _ _ hR2 hDp2 hcost2 => ?_⟩
    have hd0 : ds2.length = 0 := hcost2
    try walk_at "WP"
    intro e4 he4
    have se4 := same_new he4 (.lst [V.int 0])
    refine ⟨t2, dl2, ol2, e4, ds2, [0], rfl, hR2.same se4, hDp2.same se4, upd_same, by simp, by omega, by rw [hd0]; decide, b0, fun H7 s7 => ?_⟩
    exact q _
end
theorem all_mk {l : PySem.W.OpenLaw} {w : World} {K : PySem.W.Frag} {h : Heap} {mg : Str → Option Value} {fa : Addr} (X : K.In h) (G : h.Ns mainGlobals mg) (hfa : mg "law" = some (.ref fa))
    {f1 : Addr} {od1 an1 : Option Addr} {sl1 : Array (Option Value)} {oc1 kV1 dc1 pm1 cd1 ct1 : Value} {f2 : Addr} {od2 an2 : Option Addr} {sl2 : Array (Option Value)} {oc2 kV2 dc2 pm2 cd2 ct2 : Value} {f3 : Addr} {od3 an3 : Option Addr} {sl3 : Array (Option Value)} {oc3 kV3 dc3 pm3 cd3 ct3 : Value} {f4 : Addr} {od4 an4 : Option Addr} {sl4 : Array (Option Value)} {oc4 kV4 dc4 pm4 cd4 ct4 : Value} {f5 : Addr} {od5 an5 : Option Addr} {sl5 : Array (Option Value)} {oc5 kV5 dc5 pm5 cd5 ct5 : Value} {f6 : Addr} {od6 an6 : Option Addr} {sl6 : Array (Option Value)} {oc6 kV6 dc6 pm6 cd6 ct6 : Value} {f7 : Addr} {od7 an7 : Option Addr} {sl7 : Array (Option Value)} {oc7 kV7 dc7 pm7 cd7 ct7 : Value} {f8 : Addr} {od8 an8 : Option Addr} {sl8 : Array (Option Value)} {oc8 kV8 dc8 pm8 cd8 ct8 : Value} {f9 : Addr} {od9 an9 : Option Addr} {sl9 : Array (Option Value)} {oc9 kV9 dc9 pm9 cd9 ct9 : Value} {f10 : Addr} {od10 an10 : Option Addr} {sl10 : Array (Option Value)} {oc10 kV10 dc10 pm10 cd10 ct10 : Value} {f11 : Addr} {od11 an11 : Option Addr} {sl11 : Array (Option Value)} {oc11 kV11 dc11 pm11 cd11 ct11 : Value} {f12 : Addr} {od12 an12 : Option Addr} {sl12 : Array (Option Value)} {oc12 kV12 dc12 pm12 cd12 ct12 : Value} {f13 : Addr} {od13 an13 : Option Addr} {sl13 : Array (Option Value)} {oc13 kV13 dc13 pm13 cd13 ct13 : Value} {f14 : Addr} {od14 an14 : Option Addr} {sl14 : Array (Option Value)} {oc14 kV14 dc14 pm14 cd14 ct14 : Value} {f15 : Addr} {od15 an15 : Option Addr} {sl15 : Array (Option Value)} {oc15 kV15 dc15 pm15 cd15 ct15 : Value} {f16 : Addr} {od16 an16 : Option Addr} {sl16 : Array (Option Value)} {oc16 kV16 dc16 pm16 cd16 ct16 : Value} {f17 : Addr} {od17 an17 : Option Addr} {sl17 : Array (Option Value)} {oc17 kV17 dc17 pm17 cd17 ct17 : Value} {f18 : Addr} {od18 an18 : Option Addr} {sl18 : Array (Option Value)} {oc18 kV18 dc18 pm18 cd18 ct18 : Value} {f19 : Addr} {od19 an19 : Option Addr} {sl19 : Array (Option Value)} {oc19 kV19 dc19 pm19 cd19 ct19 : Value} {f20 : Addr} {od20 an20 : Option Addr} {sl20 : Array (Option Value)} {oc20 kV20 dc20 pm20 cd20 ct20 : Value} {f21 : Addr} {od21 an21 : Option Addr} {sl21 : Array (Option Value)} {oc21 kV21 dc21 pm21 cd21 ct21 : Value} {f22 : Addr} {od22 an22 : Option Addr} {sl22 : Array (Option Value)} {oc22 kV22 dc22 pm22 cd22 ct22 : Value} {f23 : Addr} {od23 an23 : Option Addr} {sl23 : Array (Option Value)} {oc23 kV23 dc23 pm23 cd23 ct23 : Value} {f24 : Addr} {od24 an24 : Option Addr} {sl24 : Array (Option Value)} {oc24 kV24 dc24 pm24 cd24 ct24 : Value} {f25 : Addr} {od25 an25 : Option Addr} {sl25 : Array (Option Value)} {oc25 kV25 dc25 pm25 cd25 ct25 : Value} {f26 : Addr} {od26 an26 : Option Addr} {sl26 : Array (Option Value)} {oc26 kV26 dc26 pm26 cd26 ct26 : Value} {f27 : Addr} {od27 an27 : Option Addr} {sl27 : Array (Option Value)} {oc27 kV27 dc27 pm27 cd27 ct27 : Value} {f28 : Addr} {od28 an28 : Option Addr} {sl28 : Array (Option Value)} {oc28 kV28 dc28 pm28 cd28 ct28 : Value} {f29 : Addr} {od29 an29 : Option Addr} {sl29 : Array (Option Value)} {oc29 kV29 dc29 pm29 cd29 ct29 : Value} {fc1 : Addr} {oe1 : Option Addr} {sm1 : Array (Option Value)} {nc1 : Nat} {ta1 tb1 td1 : Tok}
    (a1 : PySem.W.nsIn K mainGlobals "core" = some (some (.ref f1))) (l1 : K.lookup f1 = some ⟨oc1, od1, .func (PySem.W.fnOf "core" "core" (defArgs s_core) (defBody s_core) (defScope s_core) .none kV1 dc1 pm1 an1 cd1 ct1), sl1⟩) (c1 : PySem.W.codeIn K cd1 "core" = true) (k1 : PySem.W.keepIn K (.ref f1) = true)
    (a2 : PySem.W.nsIn K mainGlobals "moved" = some (some (.ref f2))) (l2 : K.lookup f2 = some ⟨oc2, od2, .func (PySem.W.fnOf "moved" "moved" (defArgs s_moved) (defBody s_moved) (defScope s_moved) .none kV2 dc2 pm2 an2 cd2 ct2), sl2⟩) (c2 : PySem.W.codeIn K cd2 "moved" = true) (k2 : PySem.W.keepIn K (.ref f2) = true)
    (a3 : PySem.W.nsIn K mainGlobals "deed_of" = some (some (.ref f3))) (l3 : K.lookup f3 = some ⟨oc3, od3, .func (PySem.W.fnOf "deed_of" "deed_of" (defArgs s_deed_of) (defBody s_deed_of) (defScope s_deed_of) .none kV3 dc3 pm3 an3 cd3 ct3), sl3⟩) (c3 : PySem.W.codeIn K cd3 "deed_of" = true) (k3 : PySem.W.keepIn K (.ref f3) = true)
    (a4 : PySem.W.nsIn K mainGlobals "sign_of" = some (some (.ref f4))) (l4 : K.lookup f4 = some ⟨oc4, od4, .func (PySem.W.fnOf "sign_of" "sign_of" (defArgs s_sign_of) (defBody s_sign_of) (defScope s_sign_of) .none kV4 dc4 pm4 an4 cd4 ct4), sl4⟩) (c4 : PySem.W.codeIn K cd4 "sign_of" = true) (k4 : PySem.W.keepIn K (.ref f4) = true)
    (a5 : PySem.W.nsIn K mainGlobals "out_for" = some (some (.ref f5))) (l5 : K.lookup f5 = some ⟨oc5, od5, .func (PySem.W.fnOf "out_for" "out_for" (defArgs s_out_for) (defBody s_out_for) (defScope s_out_for) .none kV5 dc5 pm5 an5 cd5 ct5), sl5⟩) (c5 : PySem.W.codeIn K cd5 "out_for" = true) (k5 : PySem.W.keepIn K (.ref f5) = true)
    (a6 : PySem.W.nsIn K mainGlobals "signs" = some (some (.ref f6))) (l6 : K.lookup f6 = some ⟨oc6, od6, .func (PySem.W.fnOf "signs" "signs" (defArgs s_signs) (defBody s_signs) (defScope s_signs) .none kV6 dc6 pm6 an6 cd6 ct6), sl6⟩) (c6 : PySem.W.codeIn K cd6 "signs" = true) (k6 : PySem.W.keepIn K (.ref f6) = true)
    (a7 : PySem.W.nsIn K mainGlobals "first_sign" = some (some (.ref f7))) (l7 : K.lookup f7 = some ⟨oc7, od7, .func (PySem.W.fnOf "first_sign" "first_sign" (defArgs s_first_sign) (defBody s_first_sign) (defScope s_first_sign) .none kV7 dc7 pm7 an7 cd7 ct7), sl7⟩) (c7 : PySem.W.codeIn K cd7 "first_sign" = true) (k7 : PySem.W.keepIn K (.ref f7) = true)
    (a8 : PySem.W.nsIn K mainGlobals "deep" = some (some (.ref f8))) (l8 : K.lookup f8 = some ⟨oc8, od8, .func (PySem.W.fnOf "deep" "deep" (defArgs s_deep) (defBody s_deep) (defScope s_deep) .none kV8 dc8 pm8 an8 cd8 ct8), sl8⟩) (c8 : PySem.W.codeIn K cd8 "deep" = true) (k8 : PySem.W.keepIn K (.ref f8) = true)
    (a9 : PySem.W.nsIn K mainGlobals "unlike_cores" = some (some (.ref f9))) (l9 : K.lookup f9 = some ⟨oc9, od9, .func (PySem.W.fnOf "unlike_cores" "unlike_cores" (defArgs s_unlike_cores) (defBody s_unlike_cores) (defScope s_unlike_cores) .none kV9 dc9 pm9 an9 cd9 ct9), sl9⟩) (c9 : PySem.W.codeIn K cd9 "unlike_cores" = true) (k9 : PySem.W.keepIn K (.ref f9) = true)
    (a10 : PySem.W.nsIn K mainGlobals "add_tree" = some (some (.ref f10))) (l10 : K.lookup f10 = some ⟨oc10, od10, .func (PySem.W.fnOf "add_tree" "add_tree" (defArgs s_add_tree) (defBody s_add_tree) (defScope s_add_tree) .none kV10 dc10 pm10 an10 cd10 ct10), sl10⟩) (c10 : PySem.W.codeIn K cd10 "add_tree" = true) (k10 : PySem.W.keepIn K (.ref f10) = true)
    (a11 : PySem.W.nsIn K mainGlobals "paired" = some (some (.ref f11))) (l11 : K.lookup f11 = some ⟨oc11, od11, .func (PySem.W.fnOf "paired" "paired" (defArgs s_paired) (defBody s_paired) (defScope s_paired) .none kV11 dc11 pm11 an11 cd11 ct11), sl11⟩) (c11 : PySem.W.codeIn K cd11 "paired" = true) (k11 : PySem.W.keepIn K (.ref f11) = true)
    (a12 : PySem.W.nsIn K mainGlobals "_law_pen" = some (some (.ref f12))) (l12 : K.lookup f12 = some ⟨oc12, od12, .func (PySem.W.fnOf "_law_pen" "_law_pen" (defArgs s_l_pen) (defBody s_l_pen) (defScope s_l_pen) .none kV12 dc12 pm12 an12 cd12 ct12), sl12⟩) (c12 : PySem.W.codeIn K cd12 "_law_pen" = true) (k12 : PySem.W.keepIn K (.ref f12) = true)
    (a13 : PySem.W.nsIn K mainGlobals "_law_draw" = some (some (.ref f13))) (l13 : K.lookup f13 = some ⟨oc13, od13, .func (PySem.W.fnOf "_law_draw" "_law_draw" (defArgs s_l_draw) (defBody s_l_draw) (defScope s_l_draw) .none kV13 dc13 pm13 an13 cd13 ct13), sl13⟩) (c13 : PySem.W.codeIn K cd13 "_law_draw" = true) (k13 : PySem.W.keepIn K (.ref f13) = true)
    (a14 : PySem.W.nsIn K mainGlobals "_law_any" = some (some (.ref f14))) (l14 : K.lookup f14 = some ⟨oc14, od14, .func (PySem.W.fnOf "_law_any" "_law_any" (defArgs s_l_any) (defBody s_l_any) (defScope s_l_any) .none kV14 dc14 pm14 an14 cd14 ct14), sl14⟩) (c14 : PySem.W.codeIn K cd14 "_law_any" = true) (k14 : PySem.W.keepIn K (.ref f14) = true)
    (a15 : PySem.W.nsIn K mainGlobals "_law_number" = some (some (.ref f15))) (l15 : K.lookup f15 = some ⟨oc15, od15, .func (PySem.W.fnOf "_law_number" "_law_number" (defArgs s_l_number) (defBody s_l_number) (defScope s_l_number) .none kV15 dc15 pm15 an15 cd15 ct15), sl15⟩) (c15 : PySem.W.codeIn K cd15 "_law_number" = true) (k15 : PySem.W.keepIn K (.ref f15) = true)
    (a16 : PySem.W.nsIn K mainGlobals "_law_whole" = some (some (.ref f16))) (l16 : K.lookup f16 = some ⟨oc16, od16, .func (PySem.W.fnOf "_law_whole" "_law_whole" (defArgs s_l_whole) (defBody s_l_whole) (defScope s_l_whole) .none kV16 dc16 pm16 an16 cd16 ct16), sl16⟩) (c16 : PySem.W.codeIn K cd16 "_law_whole" = true) (k16 : PySem.W.keepIn K (.ref f16) = true)
    (a17 : PySem.W.nsIn K mainGlobals "_law_signs" = some (some (.ref f17))) (l17 : K.lookup f17 = some ⟨oc17, od17, .func (PySem.W.fnOf "_law_signs" "_law_signs" (defArgs s_l_signs) (defBody s_l_signs) (defScope s_l_signs) .none kV17 dc17 pm17 an17 cd17 ct17), sl17⟩) (c17 : PySem.W.codeIn K cd17 "_law_signs" = true) (k17 : PySem.W.keepIn K (.ref f17) = true)
    (a18 : PySem.W.nsIn K mainGlobals "_law_least" = some (some (.ref f18))) (l18 : K.lookup f18 = some ⟨oc18, od18, .func (PySem.W.fnOf "_law_least" "_law_least" (defArgs s_l_least) (defBody s_l_least) (defScope s_l_least) .none kV18 dc18 pm18 an18 cd18 ct18), sl18⟩) (c18 : PySem.W.codeIn K cd18 "_law_least" = true) (k18 : PySem.W.keepIn K (.ref f18) = true)
    (a19 : PySem.W.nsIn K mainGlobals "_law_shifted" = some (some (.ref f19))) (l19 : K.lookup f19 = some ⟨oc19, od19, .func (PySem.W.fnOf "_law_shifted" "_law_shifted" (defArgs s_l_shifted) (defBody s_l_shifted) (defScope s_l_shifted) .none kV19 dc19 pm19 an19 cd19 ct19), sl19⟩) (c19 : PySem.W.codeIn K cd19 "_law_shifted" = true) (k19 : PySem.W.keepIn K (.ref f19) = true)
    (a20 : PySem.W.nsIn K mainGlobals "_law_is_thing" = some (some (.ref f20))) (l20 : K.lookup f20 = some ⟨oc20, od20, .func (PySem.W.fnOf "_law_is_thing" "_law_is_thing" (defArgs s_l_is_thing) (defBody s_l_is_thing) (defScope s_l_is_thing) .none kV20 dc20 pm20 an20 cd20 ct20), sl20⟩) (c20 : PySem.W.codeIn K cd20 "_law_is_thing" = true) (k20 : PySem.W.keepIn K (.ref f20) = true)
    (a21 : PySem.W.nsIn K mainGlobals "_law_deed" = some (some (.ref f21))) (l21 : K.lookup f21 = some ⟨oc21, od21, .func (PySem.W.fnOf "_law_deed" "_law_deed" (defArgs s_l_deed) (defBody s_l_deed) (defScope s_l_deed) .none kV21 dc21 pm21 an21 cd21 ct21), sl21⟩) (c21 : PySem.W.codeIn K cd21 "_law_deed" = true) (k21 : PySem.W.keepIn K (.ref f21) = true)
    (a22 : PySem.W.nsIn K mainGlobals "_law_out" = some (some (.ref f22))) (l22 : K.lookup f22 = some ⟨oc22, od22, .func (PySem.W.fnOf "_law_out" "_law_out" (defArgs s_l_out) (defBody s_l_out) (defScope s_l_out) .none kV22 dc22 pm22 an22 cd22 ct22), sl22⟩) (c22 : PySem.W.codeIn K cd22 "_law_out" = true) (k22 : PySem.W.keepIn K (.ref f22) = true)
    (a23 : PySem.W.nsIn K mainGlobals "_law_walked" = some (some (.ref f23))) (l23 : K.lookup f23 = some ⟨oc23, od23, .func (PySem.W.fnOf "_law_walked" "_law_walked" (defArgs s_l_walked) (defBody s_l_walked) (defScope s_l_walked) .none kV23 dc23 pm23 an23 cd23 ct23), sl23⟩) (c23 : PySem.W.codeIn K cd23 "_law_walked" = true) (k23 : PySem.W.keepIn K (.ref f23) = true)
    (a24 : PySem.W.nsIn K mainGlobals "_law_numbers" = some (some (.ref f24))) (l24 : K.lookup f24 = some ⟨oc24, od24, .func (PySem.W.fnOf "_law_numbers" "_law_numbers" (defArgs s_l_numbers) (defBody s_l_numbers) (defScope s_l_numbers) .none kV24 dc24 pm24 an24 cd24 ct24), sl24⟩) (c24 : PySem.W.codeIn K cd24 "_law_numbers" = true) (k24 : PySem.W.keepIn K (.ref f24) = true)
    (a25 : PySem.W.nsIn K mainGlobals "_law_bound" = some (some (.ref f25))) (l25 : K.lookup f25 = some ⟨oc25, od25, .func (PySem.W.fnOf "_law_bound" "_law_bound" (defArgs s_l_bound) (defBody s_l_bound) (defScope s_l_bound) .none kV25 dc25 pm25 an25 cd25 ct25), sl25⟩) (c25 : PySem.W.codeIn K cd25 "_law_bound" = true) (k25 : PySem.W.keepIn K (.ref f25) = true)
    (a26 : PySem.W.nsIn K mainGlobals "_law_least_depth" = some (some (.ref f26))) (l26 : K.lookup f26 = some ⟨oc26, od26, .func (PySem.W.fnOf "_law_least_depth" "_law_least_depth" (defArgs s_l_least_depth) (defBody s_l_least_depth) (defScope s_l_least_depth) .none kV26 dc26 pm26 an26 cd26 ct26), sl26⟩) (c26 : PySem.W.codeIn K cd26 "_law_least_depth" = true) (k26 : PySem.W.keepIn K (.ref f26) = true)
    (a27 : PySem.W.nsIn K mainGlobals "_law_depth" = some (some (.ref f27))) (l27 : K.lookup f27 = some ⟨oc27, od27, .func (PySem.W.fnOf "_law_depth" "_law_depth" (defArgs s_l_depth) (defBody s_l_depth) (defScope s_l_depth) .none kV27 dc27 pm27 an27 cd27 ct27), sl27⟩) (c27 : PySem.W.codeIn K cd27 "_law_depth" = true) (k27 : PySem.W.keepIn K (.ref f27) = true)
    (a28 : PySem.W.nsIn K mainGlobals "_law_right" = some (some (.ref f28))) (l28 : K.lookup f28 = some ⟨oc28, od28, .func (PySem.W.fnOf "_law_right" "_law_right" (defArgs s_l_right) (defBody s_l_right) (defScope s_l_right) .none kV28 dc28 pm28 an28 cd28 ct28), sl28⟩) (c28 : PySem.W.codeIn K cd28 "_law_right" = true) (k28 : PySem.W.keepIn K (.ref f28) = true)
    (a29 : PySem.W.nsIn K mainGlobals "law" = some (some (.ref f29))) (l29 : K.lookup f29 = some ⟨oc29, od29, .func (PySem.W.fnOf "law" "law" (defArgs s_law) (defBody s_law) (defScope s_law) .none kV29 dc29 pm29 an29 cd29 ct29), sl29⟩) (c29 : PySem.W.codeIn K cd29 "law" = true) (k29 : PySem.W.keepIn K (.ref f29) = true)
    (ac1 : PySem.W.nsIn K mainGlobals "NO_OUT" = some (some (.ref fc1))) (lc1 : K.lookup fc1 = some ⟨.type "tuple", oe1, .seq #[.int 0 ta1, .int 0 tb1, .int 0 td1] nc1, sm1⟩)
    (z1 : PySem.W.nsIn K mainGlobals "abs" = some none)
    (z2 : PySem.W.nsIn K mainGlobals "all" = some none)
    (z3 : PySem.W.nsIn K mainGlobals "bool" = some none)
    (z4 : PySem.W.nsIn K mainGlobals "enumerate" = some none)
    (z5 : PySem.W.nsIn K mainGlobals "int" = some none)
    (z6 : PySem.W.nsIn K mainGlobals "isinstance" = some none)
    (z7 : PySem.W.nsIn K mainGlobals "len" = some none)
    (z8 : PySem.W.nsIn K mainGlobals "list" = some none)
    (z9 : PySem.W.nsIn K mainGlobals "max" = some none)
    (z10 : PySem.W.nsIn K mainGlobals "range" = some none)
    (z11 : PySem.W.nsIn K mainGlobals "sum" = some none)
    (z12 : PySem.W.nsIn K mainGlobals "tuple" = some none)
    : ∃ fd : FuncData, (∀ (s : Shared) (v : Value), BindsTo s fd ⟨[v], []⟩ [("_law_script", v)]) ∧ ∀ base : Heap, K.In base → base.Ns mainGlobals mg → FnOk l.prog w K mg base CX0 20 fa fd ["_law_script"] (spLaw K) := by
  have e := hfa.symm.trans (PySem.W.mg_of X G a29)
  cases e
  have F1 := fun_mk (st := s_core) l1 c1 k1
  have b1 := F1.binds (ps := ["number"]) fun _ _ _ _ _ _ us hl => match us, hl with | [_], _ => rfl
  have F2 := fun_mk (st := s_moved) l2 c2 k2
  have b2 := F2.binds (ps := ["part", "shift", "sign"]) fun _ _ _ _ _ _ us hl => match us, hl with | [_, _, _], _ => rfl
  have F3 := fun_mk (st := s_deed_of) l3 c3 k3
  have b3 := F3.binds (ps := ["one", "other"]) fun _ _ _ _ _ _ us hl => match us, hl with | [_, _], _ => rfl
  have F4 := fun_mk (st := s_sign_of) l4 c4 k4
  have b4 := F4.binds (ps := ["one", "other"]) fun _ _ _ _ _ _ us hl => match us, hl with | [_, _], _ => rfl
  have F5 := fun_mk (st := s_out_for) l5 c5 k5
  have b5 := F5.binds (ps := ["number", "parts"]) fun _ _ _ _ _ _ us hl => match us, hl with | [_, _], _ => rfl
  have F6 := fun_mk (st := s_signs) l6 c6 k6
  have b6 := F6.binds (ps := ["number"]) fun _ _ _ _ _ _ us hl => match us, hl with | [_], _ => rfl
  have F7 := fun_mk (st := s_first_sign) l7 c7 k7
  have b7 := F7.binds (ps := ["number"]) fun _ _ _ _ _ _ us hl => match us, hl with | [_], _ => rfl
  have F8 := fun_mk (st := s_deep) l8 c8 k8
  have b8 := F8.binds (ps := ["numbers"]) fun _ _ _ _ _ _ us hl => match us, hl with | [_], _ => rfl
  have F9 := fun_mk (st := s_unlike_cores) l9 c9 k9
  have b9 := F9.binds (ps := ["numbers"]) fun _ _ _ _ _ _ us hl => match us, hl with | [_], _ => rfl
  have F10 := fun_mk (st := s_add_tree) l10 c10 k10
  have b10 := F10.binds (ps := ["deeds", "odd"]) fun _ _ _ _ _ _ us hl => match us, hl with | [_, _], _ => rfl
  have F11 := fun_mk (st := s_paired) l11 c11 k11
  have b11 := F11.binds (ps := ["deeds", "parts"]) fun _ _ _ _ _ _ us hl => match us, hl with | [_, _], _ => rfl
  have F12 := fun_mk (st := s_l_pen) l12 c12 k12
  have b12 := F12.binds (ps := ["_law_script"]) fun _ _ _ _ _ _ us hl => match us, hl with | [_], _ => rfl
  have F13 := fun_mk (st := s_l_draw) l13 c13 k13
  have b13 := F13.binds (ps := ["_law_pen_here", "_law_many"]) fun _ _ _ _ _ _ us hl => match us, hl with | [_, _], _ => rfl
  have F14 := fun_mk (st := s_l_any) l14 c14 k14
  have b14 := F14.binds (ps := ["_law_pen_here", "_law_size"]) fun _ _ _ _ _ _ us hl => match us, hl with | [_, _], _ => rfl
  have F15 := fun_mk (st := s_l_number) l15 c15 k15
  have b15 := F15.binds (ps := ["_law_pen_here"]) fun _ _ _ _ _ _ us hl => match us, hl with | [_], _ => rfl
  have F16 := fun_mk (st := s_l_whole) l16 c16 k16
  have b16 := F16.binds (ps := ["_law_thing"]) fun _ _ _ _ _ _ us hl => match us, hl with | [_], _ => rfl
  have F17 := fun_mk (st := s_l_signs) l17 c17 k17
  have b17 := F17.binds (ps := ["_law_number_here"]) fun _ _ _ _ _ _ us hl => match us, hl with | [_], _ => rfl
  have F18 := fun_mk (st := s_l_least) l18 c18 k18
  have b18 := F18.binds (ps := ["_law_number_here"]) fun _ _ _ _ _ _ us hl => match us, hl with | [_], _ => rfl
  have F19 := fun_mk (st := s_l_shifted) l19 c19 k19
  have b19 := F19.binds (ps := ["_law_number_here", "_law_shift"]) fun _ _ _ _ _ _ us hl => match us, hl with | [_, _], _ => rfl
  have F20 := fun_mk (st := s_l_is_thing) l20 c20 k20
  have b20 := F20.binds (ps := ["_law_thing", "_law_some"]) fun _ _ _ _ _ _ us hl => match us, hl with | [_, _], _ => rfl
  have F21 := fun_mk (st := s_l_deed) l21 c21 k21
  have b21 := F21.binds (ps := ["_law_deed_here", "_law_some"]) fun _ _ _ _ _ _ us hl => match us, hl with | [_, _], _ => rfl
  have F22 := fun_mk (st := s_l_out) l22 c22 k22
  have b22 := F22.binds (ps := ["_law_out_here", "_law_some"]) fun _ _ _ _ _ _ us hl => match us, hl with | [_, _], _ => rfl
  have F23 := fun_mk (st := s_l_walked) l23 c23 k23
  have b23 := F23.binds (ps := ["_law_web"]) fun _ _ _ _ _ _ us hl => match us, hl with | [_], _ => rfl
  have F24 := fun_mk (st := s_l_numbers) l24 c24 k24
  have b24 := F24.binds (ps := ["_law_pen_here"]) fun _ _ _ _ _ _ us hl => match us, hl with | [_], _ => rfl
  have F25 := fun_mk (st := s_l_bound) l25 c25 k25
  have b25 := F25.binds (ps := ["_law_due"]) fun _ _ _ _ _ _ us hl => match us, hl with | [_], _ => rfl
  have F26 := fun_mk (st := s_l_least_depth) l26 c26 k26
  have b26 := F26.binds (ps := ["_law_due"]) fun _ _ _ _ _ _ us hl => match us, hl with | [_], _ => rfl
  have F27 := fun_mk (st := s_l_depth) l27 c27 k27
  have b27 := F27.binds (ps := ["_law_web"]) fun _ _ _ _ _ _ us hl => match us, hl with | [_], _ => rfl
  have F28 := fun_mk (st := s_l_right) l28 c28 k28
  have b28 := F28.binds (ps := ["_law_web", "_law_due"]) fun _ _ _ _ _ _ us hl => match us, hl with | [_, _], _ => rfl
  have F29 := fun_mk (st := s_law) l29 c29 k29
  have b29 := F29.binds (ps := ["_law_script"]) fun _ _ _ _ _ _ us hl => match us, hl with | [_], _ => rfl
  have T : Txt K mg := ⟨⟨PySem.W.mg_none_of X G z1, PySem.W.mg_none_of X G z2, PySem.W.mg_none_of X G z3, PySem.W.mg_none_of X G z4, PySem.W.mg_none_of X G z5, PySem.W.mg_none_of X G z6, PySem.W.mg_none_of X G z7, PySem.W.mg_none_of X G z8, PySem.W.mg_none_of X G z9, PySem.W.mg_none_of X G z10, PySem.W.mg_none_of X G z11, PySem.W.mg_none_of X G z12⟩, ⟨_, _, F1, PySem.W.mg_of X G a1, b1⟩, ⟨_, _, F2, PySem.W.mg_of X G a2, b2⟩, ⟨_, _, F3, PySem.W.mg_of X G a3, b3⟩, ⟨_, _, F4, PySem.W.mg_of X G a4, b4⟩, ⟨_, _, F5, PySem.W.mg_of X G a5, b5⟩, ⟨_, _, F6, PySem.W.mg_of X G a6, b6⟩, ⟨_, _, F7, PySem.W.mg_of X G a7, b7⟩, ⟨_, _, F8, PySem.W.mg_of X G a8, b8⟩, ⟨_, _, F9, PySem.W.mg_of X G a9, b9⟩, ⟨_, _, F10, PySem.W.mg_of X G a10, b10⟩, ⟨_, _, F11, PySem.W.mg_of X G a11, b11⟩, ⟨_, _, F12, PySem.W.mg_of X G a12, b12⟩, ⟨_, _, F13, PySem.W.mg_of X G a13, b13⟩, ⟨_, _, F14, PySem.W.mg_of X G a14, b14⟩, ⟨_, _, F15, PySem.W.mg_of X G a15, b15⟩, ⟨_, _, F16, PySem.W.mg_of X G a16, b16⟩, ⟨_, _, F17, PySem.W.mg_of X G a17, b17⟩, ⟨_, _, F18, PySem.W.mg_of X G a18, b18⟩, ⟨_, _, F19, PySem.W.mg_of X G a19, b19⟩, ⟨_, _, F20, PySem.W.mg_of X G a20, b20⟩, ⟨_, _, F21, PySem.W.mg_of X G a21, b21⟩, ⟨_, _, F22, PySem.W.mg_of X G a22, b22⟩, ⟨_, _, F23, PySem.W.mg_of X G a23, b23⟩, ⟨_, _, F24, PySem.W.mg_of X G a24, b24⟩, ⟨_, _, F25, PySem.W.mg_of X G a25, b25⟩, ⟨_, _, F26, PySem.W.mg_of X G a26, b26⟩, ⟨_, _, F27, PySem.W.mg_of X G a27, b27⟩, ⟨_, _, F28, PySem.W.mg_of X G a28, b28⟩, ⟨_, _, F29, PySem.W.mg_of X G a29, b29⟩, ⟨fc1, PySem.W.mg_of X G ac1, _, _, _, lc1, rfl, rfl, le_size (by show 3 ≤ 1000; decide), .cons ⟨_, rfl⟩ (.cons ⟨_, rfl⟩ (.cons ⟨_, rfl⟩ .nil))⟩⟩
  refine ⟨PySem.W.fnOf "law" "law" (defArgs s_law) (defBody s_law) (defScope s_law) .none kV29 dc29 pm29 an29 cd29 ct29, fun s v => .of_eq rfl, fun base _ _ => ?_⟩
  exact ok_law T F29
theorem walk {l : PySem.W.OpenLaw} {q : Program} {loose : List Str} {XP : (Str → Option Value) → Heap → Prop} {YP : World → Heap → Prop} {d : DefRec} {K : Params → PySem.W.Frag} (hn : l.most = some 63) (hdf : d.params.defaults = [])
    (hY : ∀ (w : World) (h : Heap), YP w h → (K w.params).In h)
    (F : ∀ (w : World) (mg : Str → Option Value) (fa : Addr) (h : Heap), (K w.params).In h → h.Ns mainGlobals mg → mg d.name = some (.ref fa) →
      ∃ fd : FuncData, (∀ (s : Shared) (u : Value), BindsTo s fd ⟨[u], []⟩ [("_law_script", u)]) ∧ ∀ base : Heap, (K w.params).In base → base.Ns mainGlobals mg → FnOk l.prog w (K w.params) mg base CX0 20 fa fd ["_law_script"] (spLaw (K w.params))) :
    PySem.W.WalkO q loose XP YP l.row.toRowW d [] (fun f vs => PySem.call f vs) :=
  L2.walk_of (n := 63) (k := 20) (x := "_law_script") (CX := fun _ => CX0) (sp := fun w => spLaw (K w.params)) hn (by decide) hdf ⟨rfl, by decide, by decide⟩ hY F (fun _ _ a ns hl hO hS => ⟨a, ns, rfl, scr_of hO hS, hl, fun _ => rfl⟩) fun _ _ _ _ _ z => z
end Law
open PySem PySem.W PyProof.Rows
set_option maxRecDepth 100000 in
set_option maxHeartbeats 0 in
theorem PySem.Challenge.cw_shiftsums_k23_deep_rows_holds : PySem.Challenge.rw_shiftsums_k23_deep_rows.Holds := by
  w_on; o_law; k_head; (case hw => w_witness2)
  k_fill
  refine Law.walk (l := PySem.Challenge.rw_shiftsums_k23_deep_rows) rfl rfl (fun w h Y => PySem.W.kIn_of Y) ?F
  case F =>
    intro w mg fa h KX G hmg
    refine' Law.all_mk KX G hmg ?a1 ?l1 ?c1 ?k1 ?a2 ?l2 ?c2 ?k2 ?a3 ?l3 ?c3 ?k3 ?a4 ?l4 ?c4 ?k4 ?a5 ?l5 ?c5 ?k5 ?a6 ?l6 ?c6 ?k6 ?a7 ?l7 ?c7 ?k7 ?a8 ?l8 ?c8 ?k8 ?a9 ?l9 ?c9 ?k9 ?a10 ?l10 ?c10 ?k10 ?a11 ?l11 ?c11 ?k11 ?a12 ?l12 ?c12 ?k12 ?a13 ?l13 ?c13 ?k13 ?a14 ?l14 ?c14 ?k14 ?a15 ?l15 ?c15 ?k15 ?a16 ?l16 ?c16 ?k16 ?a17 ?l17 ?c17 ?k17 ?a18 ?l18 ?c18 ?k18 ?a19 ?l19 ?c19 ?k19 ?a20 ?l20 ?c20 ?k20 ?a21 ?l21 ?c21 ?k21 ?a22 ?l22 ?c22 ?k22 ?a23 ?l23 ?c23 ?k23 ?a24 ?l24 ?c24 ?k24 ?a25 ?l25 ?c25 ?k25 ?a26 ?l26 ?c26 ?k26 ?a27 ?l27 ?c27 ?k27 ?a28 ?l28 ?c28 ?k28 ?a29 ?l29 ?c29 ?k29 ?ac1 ?lc1 ?z1 ?z2 ?z3 ?z4 ?z5 ?z6 ?z7 ?z8 ?z9 ?z10 ?z11 ?z12
    (case a1 => k_is); (case l1 => k_is); (case c1 => k_is); (case k1 => k_is)
    (case a2 => k_is); (case l2 => k_is); (case c2 => k_is); (case k2 => k_is)
    (case a3 => k_is); (case l3 => k_is); (case c3 => k_is); (case k3 => k_is)
    (case a4 => k_is); (case l4 => k_is); (case c4 => k_is); (case k4 => k_is)
    (case a5 => k_is); (case l5 => k_is); (case c5 => k_is); (case k5 => k_is)
    (case a6 => k_is); (case l6 => k_is); (case c6 => k_is); (case k6 => k_is)
    (case a7 => k_is); (case l7 => k_is); (case c7 => k_is); (case k7 => k_is)
    (case a8 => k_is); (case l8 => k_is); (case c8 => k_is); (case k8 => k_is)
    (case a9 => k_is); (case l9 => k_is); (case c9 => k_is); (case k9 => k_is)
    (case a10 => k_is); (case l10 => k_is); (case c10 => k_is); (case k10 => k_is)
    (case a11 => k_is); (case l11 => k_is); (case c11 => k_is); (case k11 => k_is)
    (case a12 => k_is); (case l12 => k_is); (case c12 => k_is); (case k12 => k_is)
    (case a13 => k_is); (case l13 => k_is); (case c13 => k_is); (case k13 => k_is)
    (case a14 => k_is); (case l14 => k_is); (case c14 => k_is); (case k14 => k_is)
    (case a15 => k_is); (case l15 => k_is); (case c15 => k_is); (case k15 => k_is)
    (case a16 => k_is); (case l16 => k_is); (case c16 => k_is); (case k16 => k_is)
    (case a17 => k_is); (case l17 => k_is); (case c17 => k_is); (case k17 => k_is)
    (case a18 => k_is); (case l18 => k_is); (case c18 => k_is); (case k18 => k_is)
    (case a19 => k_is); (case l19 => k_is); (case c19 => k_is); (case k19 => k_is)
    (case a20 => k_is); (case l20 => k_is); (case c20 => k_is); (case k20 => k_is)
    (case a21 => k_is); (case l21 => k_is); (case c21 => k_is); (case k21 => k_is)
    (case a22 => k_is); (case l22 => k_is); (case c22 => k_is); (case k22 => k_is)
    (case a23 => k_is); (case l23 => k_is); (case c23 => k_is); (case k23 => k_is)
    (case a24 => k_is); (case l24 => k_is); (case c24 => k_is); (case k24 => k_is)
    (case a25 => k_is); (case l25 => k_is); (case c25 => k_is); (case k25 => k_is)
    (case a26 => k_is); (case l26 => k_is); (case c26 => k_is); (case k26 => k_is)
    (case a27 => k_is); (case l27 => k_is); (case c27 => k_is); (case k27 => k_is)
    (case a28 => k_is); (case l28 => k_is); (case c28 => k_is); (case k28 => k_is)
    (case a29 => k_is); (case l29 => k_is); (case c29 => k_is); (case k29 => k_is)
    (case ac1 => k_is); (case lc1 => k_is); (case z1 => k_is); (case z2 => k_is)
    (case z3 => k_is); (case z4 => k_is); (case z5 => k_is); (case z6 => k_is)
    (case z7 => k_is); (case z8 => k_is); (case z9 => k_is); (case z10 => k_is)
    (case z11 => k_is); (case z12 => k_is)
end
