import PyProof.Rows.All
import Wide.All
import OpenK.AllK
import Wide.FinOn
import Lean
import PyProof.EqAt
import PyProof.EqKinds
import PyProof.TupleCall
import PyProof.NeKinds
import KE.KMinBuiltin
import PyProof.Rows.CallKwBuiltin
import KE.KDictList
import PyProof.ZipIter
import PyProof.EnumFor
import PyProof.EnumMake
import PyProof.EnumStmt
import PyProof.Rows.Range3
import KE.KItemsList
import PyProof.ListRange
import KE.KIsAll
import PyProof.TupleIter
import PyProof.StationsW
import OpenK.KOwn
import PyProof.RulesDel
import PyProof.ExcArgsOwn
import PyProof.ExcAttrAll.ValueError
import KE.IntBitsLaws
import PyProof.IsRules
import PyProof.SetKind
import PyProof.Rows.SetFrom
import PyProof.CollectWalk
import PyProof.ListNew
import PyProof.Seq
import KE.KSortedM
import PyProof.InstStoreFacts
import PyProof.ExcInit
import KE.KSortTup
import PyProof.AttrMissSeq
import KE.KEqDict
import PyProof.Rows.FStr
import PyProof.Rows.StrJoin2
import OpenK.KTop
import PyProof.StrLaws
import PySem.Challenge.RW_shiftsums_k09_writings_listed
section
set_option Elab.async false
set_option linter.all false
set_option maxRecDepth 100000
namespace L2
open PySem PySem.Spec PyProof.Rows
abbrev Key := Sum Int Str
def keyIs : Key → Value → Bool
  | .inl k, v => Value.isInt k v
  | .inr x, v => Value.isStrOf x v
def keyH (w : World) : Key → Int
  | .inl k => hashInt k
  | .inr x => hashStr w x
theorem keyIs_shape : ∀ {k : Key} {v : Value}, keyIs k v = true → (∃ i t, k = Sum.inl i ∧ v = Value.int i t) ∨ (∃ x t, k = Sum.inr x ∧ v = Value.str x t)
  | .inl i, v, h => by
    obtain ⟨t, e⟩ := Value.isInt_shape (k := i) (v := v) h
    exact .inl ⟨i, t, rfl, e⟩
  | .inr x, v, h => by
    obtain ⟨t, e⟩ := Value.isStrOf_shape (x := x) (v := v) h
    exact .inr ⟨x, t, rfl, e⟩
theorem keyIs_int (i : Int) (t : Tok) : keyIs (.inl i) (.int i t) = true := by simp [keyIs, Value.isInt]
theorem keyIs_str (x : Str) (t : Tok) : keyIs (.inr x) (.str x t) = true := by simp [keyIs, Value.isStrOf]
theorem key_ll (a b : Int) : decide ((Sum.inl a : Key) = Sum.inl b) = (a == b) := by
  by_cases e : a = b
  · subst e; simp
  · have h : ¬ (Sum.inl a : Key) = Sum.inl b := fun q => e (Sum.inl.inj q)
    rw [decide_eq_false h]
    exact (beq_eq_false_iff_ne.mpr e).symm
theorem key_rr (a b : Str) : decide ((Sum.inr a : Key) = Sum.inr b) = decide (a = b) := by
  by_cases e : a = b
  · subst e; simp
  · have h : ¬ (Sum.inr a : Key) = Sum.inr b := fun q => e (Sum.inr.inj q)
    rw [decide_eq_false h, decide_eq_false e]
theorem key_lr (a : Int) (b : Str) : decide ((Sum.inl a : Key) = Sum.inr b) = false := decide_eq_false (fun q => nomatch q)
theorem key_rl (a : Str) (b : Int) : decide ((Sum.inr a : Key) = Sum.inl b) = false := decide_eq_false (fun q => nomatch q)
def mixKind (prog : Program) (w : World) : PySem.KeyKind prog w Key where
  is := keyIs
  hash := keyH w
  inj := fun v a b ha hb => by
    rcases keyIs_shape ha with ⟨i, t, rfl, rfl⟩ | ⟨x, t, rfl, rfl⟩
    · rcases keyIs_shape hb with ⟨j, u, rfl, e⟩ | ⟨y, u, rfl, e⟩
      · injection e with e1 _; rw [e1]
      · exact nomatch e
    · rcases keyIs_shape hb with ⟨j, u, rfl, e⟩ | ⟨y, u, rfl, e⟩
      · exact nomatch e
      · injection e with e1 _; rw [e1]
  byValue := fun k v h => by
    rcases keyIs_shape h with ⟨i, t, rfl, rfl⟩ | ⟨x, t, rfl, rfl⟩ <;> rfl
  pyHash := fun hv h => by
    rcases keyIs_shape hv with ⟨i, t, rfl, rfl⟩ | ⟨x, t, rfl, rfl⟩
    · exact wpAny_pyHash_int h
    · exact wpAny_pyHash_str h
  eqBool := fun hu hv h => by
    rcases keyIs_shape hu with ⟨i, t, rfl, rfl⟩ | ⟨x, t, rfl, rfl⟩
    · rcases keyIs_shape hv with ⟨j, u, rfl, rfl⟩ | ⟨y, u, rfl, rfl⟩
      · rw [key_ll] at h; exact wpAny_eqBool_int h
      · rw [key_lr] at h; exact SeqAt.EqAt.int_str i t y u _ _ _ _ h
    · rcases keyIs_shape hv with ⟨j, u, rfl, rfl⟩ | ⟨y, u, rfl, rfl⟩
      · rw [key_rl] at h; exact SeqAt.EqAt.str_int x t j u _ _ _ _ h
      · rw [key_rr] at h; exact wpAny_eqBool_str h
  «strs» := fun k x t v h => by
    rcases keyIs_shape h with ⟨i, u, rfl, e⟩ | ⟨y, u, rfl, e⟩
    · exact nomatch e
    · injection e with e1 _
      subst e1
      cases v <;> rfl
theorem mixKind_int (prog : Program) (w : World) (i : Int) (t : Tok) : (mixKind prog w).is (.inl i) (.int i t) = true := keyIs_int i t
theorem mixKind_str (prog : Program) (w : World) (x : Str) (t : Tok) : (mixKind prog w).is (.inr x) (.str x t) = true := keyIs_str x t
end L2
namespace L2
open PySem PySem.Spec PyProof.Rows
inductive V where
  | non | bl (b : Bool) | int (i : Int) | str (x : Str) | byt (b : Array UInt8) | flt (b : UInt64) | ref (a : Addr) | ty (n : String)
  deriving DecidableEq
def RelV : V → Value → Prop
  | .non, u => u = Value.none
  | .bl b, u => u = Value.bool b
  | .int i, u => ∃ t, u = Value.int i t
  | .str x, u => ∃ t, u = Value.str x t
  | .byt b, u => ∃ t, u = Value.bytes b t
  | .flt b, u => ∃ t, u = Value.float b t
  | .ref a, u => u = Value.ref a
  | .ty n, u => u = Value.type n
abbrev Vals : List V → List Value → Prop := Paired RelV
theorem Vals.length {xs : List V} {us : List Value} (r : Vals xs us) : xs.length = us.length := Paired.length r
theorem Vals.get : ∀ {xs : List V} {us : List Value} {i : Nat} {x : V}, Vals xs us → xs[i]? = some x → ∃ u, us[i]? = some u ∧ RelV x u
  | _, _, _, _, .nil, e => by simp at e
  | _, _, 0, _, .cons r _, e => by simp at e; subst e; exact ⟨_, rfl, r⟩
  | _, _, i + 1, x, .cons _ t, e => by
    obtain ⟨u, h1, h2⟩ := Vals.get (i := i) (x := x) t (by simpa using e)
    exact ⟨u, by simpa using h1, h2⟩
theorem Vals.append : ∀ {xs ys : List V} {us ws : List Value}, Vals xs us → Vals ys ws → Vals (xs ++ ys) (us ++ ws)
  | _, _, _, _, .nil, s => s
  | _, _, _, _, .cons r t, s => .cons r (Vals.append t s)
def RelO : Option V → Option Value → Prop
  | some v, some u => RelV v u
  | none, none => True
  | _, _ => False
def KV {κ : Type} : List (κ × V) → List (κ × Value) → Prop := Paired fun (p : κ × V) (q : κ × Value) => p.1 = q.1 ∧ RelV p.2 q.2
def kV : Key → V
  | .inl i => .int i
  | .inr x => .str x
inductive HO where
  | lst (xs : List V)
  | tup (xs : List V)
  | dK (kvs : List (Key × V)) | dT (kvs : List (List Key × V))
  | set (S : Int → Bool) (n : Nat)
  | ins (C dx : Addr) (fs : List (Str × V))
  | own (x : Addr)
  | xd (fs : List (Str × V))
  | met (f x : Addr)
  | rng (lo hi : Int)
  | frz (o : Obj) (u : HO)
  | tbl (ps : Array Value)
  | ext (φ : Heap → Prop)
abbrev Hp := Addr → Option HO
def upd (H : Hp) (a : Addr) (o : HO) : Hp := fun b => if b = a then some o else H b
theorem upd_same {H : Hp} {a : Addr} {o : HO} : upd H a o a = some o := by unfold upd; rw [if_pos rfl]
theorem upd_ne {H : Hp} {a b : Addr} {o : HO} (h : b ≠ a) : upd H a o b = H b := by unfold upd; rw [if_neg h]
theorem upd_upd {H : Hp} {a : Addr} {o u : HO} : upd (upd H a o) a u = upd H a u := by
  funext b; unfold upd; split <;> rfl
theorem ne_of {H : Hp} {a b : Addr} {o u : HO} (h : H a = some o) (h' : H b = some u) (d : o ≠ u) : a ≠ b := by
  intro e; subst e; rw [h] at h'; exact d (Option.some.inj h')
theorem ne_of_none {H : Hp} {a b : Addr} {o : HO} (h : H a = some o) (h' : H b = none) : a ≠ b := by
  intro e; subst e; rw [h] at h'; cases h'
section
variable (P : Program) (w : World)
def ObjOk (H : Hp) (h : Heap) (a : Addr) : HO → Prop
  | .lst xs => xs.length ≤ sizeLine ∧ ∃ (its : List Value) (n : Nat), Vals xs its ∧ h.get? a = some { cls := .type "list", data := .seq its.toArray n }
  | .tup xs => xs.length ≤ sizeLine ∧ ∃ its : List Value, Vals xs its ∧ IsTup h a its.toArray
  | .dK kvs => kvs.length ≤ sizeLine ∧ (a == sysModules) = false ∧ ∃ vs, KV kvs vs ∧ h.DictOf (mixKind P w) a vs
  | .dT kvs => kvs.length ≤ sizeLine ∧ (a == sysModules) = false ∧ ∃ xs : List (List Key × Addr × Value),
      Paired (fun (p : List Key × V) (q : List Key × Addr × Value) => p.1 = q.1 ∧ H q.2.1 = some (.tup (p.1.map kV)) ∧ RelV p.2 q.2.2) kvs xs ∧
      ∃ o es ep, h.get? a = some o ∧ o.ExactDict ∧ o.data = .dict es ep ∧ es.toList = xs.map (entryOfKey (tupleKind (mixKind P w))) ∧ (xs.map (·.1)).Nodup
  | .set S n => h.SetOf (intKind P w) a S n
  | .ins C dx fs => H dx = some (.own a) ∧ fs.length ≤ 1000 ∧ dx ≠ a ∧ h.get? a = some (PySem.W.instObj C dx) ∧
      ∃ mA, h.Ns1 dx mA ∧ (∀ f, RelO (fs.lookup f) (mA f)) ∧ PySem.Within mA (fs.map (·.1))
  | .own _ => ∃ o, h.get? a = some o
  | .xd fs => ∃ mA, h.Ns1 a mA ∧ ∀ f, RelO (fs.lookup f) (mA f)
  | .rng lo hi => ∃ t u v, h.get? a = some { cls := .type "range", data := .fields #[.int lo t, .int hi u, .int 1 v] }
  | .frz o u => h.get? a = some o ∧ ObjOk H h a u
  | .tbl ps => h.get? a = some { cls := .none, data := .fields ps }
  | .met f x => h.get? a = some (PySem.W.methodObj (.ref f) (.ref x))
  | .ext φ => φ h ∧ (∃ o, h.get? a = some o) ∧ ∀ h1 h2 : Heap, φ h1 → (∀ o, h1.get? a = some o → h2.get? a = some o) → φ h2
def HOk (H : Hp) (h : Heap) : Prop := ∀ a o, H a = some o → ObjOk P w H h a o
end
section
variable {P : Program} {w : World} {H H' : Hp} {h h' : Heap} {a : Addr} {o : HO}
theorem ObjOk.lt (x : ObjOk P w H h a o) : a < h.objs.size := by
  cases o with
  | lst xs => obtain ⟨_, _, _, _, e⟩ := x; exact Heap.lt_size e
  | tup xs => obtain ⟨_, _, _, p⟩ := x; exact p.lt
  | dK kvs => obtain ⟨_, _, _, _, o, _, _, e, _⟩ := x; exact Heap.lt_size e
  | dT kvs => obtain ⟨_, _, _, _, o, _, _, e, _⟩ := x; exact Heap.lt_size e
  | set S n => obtain ⟨o, _, _, _, e, _⟩ := x; exact Heap.lt_size e
  | ins C dx fs => obtain ⟨_, _, _, e, _⟩ := x; exact Heap.lt_size e
  | own y => obtain ⟨_, e⟩ := x; exact Heap.lt_size e
  | xd fs => obtain ⟨_, ⟨_, _, _, e, _⟩, _⟩ := x; exact Heap.lt_size e
  | rng lo hi => obtain ⟨_, _, _, e⟩ := x; exact Heap.lt_size e
  | frz ob u => obtain ⟨e, _⟩ := x; exact Heap.lt_size e
  | tbl ps => exact Heap.lt_size (show h.get? a = some _ from x)
  | met f y => exact Heap.lt_size (show h.get? a = some _ from x)
  | ext φ => obtain ⟨_, ⟨_, e⟩, _⟩ := x; exact Heap.lt_size e
theorem Paired.mapP {α β : Type} {F G : α → β → Prop} : ∀ {l₁ : List α} {l₂ : List β}, Paired F l₁ l₂ → (∀ a b, F a b → G a b) → Paired G l₁ l₂
  | _, _, .nil, _ => .nil
  | _, _, .cons r t, f => .cons (f _ _ r) (Paired.mapP t f)
theorem ObjOk.stay (x : ObjOk P w H h a o) (k : ∀ b u, (b = a ∨ H b = some (.own a)) → h.get? b = some u → h'.get? b = some u)
    (ho : ∀ b, H b = some (.own a) → H' b = some (.own a)) (ht : ∀ b xs, H b = some (.tup xs) → H' b = some (.tup xs)) : ObjOk P w H' h' a o := by
  induction o with
  | lst xs => obtain ⟨z, its, n, r, e⟩ := x; exact ⟨z, its, n, r, k _ _ (.inl rfl) e⟩
  | tup xs => obtain ⟨z, its, r, ob, e, c⟩ := x; exact ⟨z, its, r, ob, k _ _ (.inl rfl) e, c⟩
  | dK kvs => obtain ⟨z, y, vs, r, ob, es, ep, e, c⟩ := x; exact ⟨z, y, vs, r, ob, es, ep, k _ _ (.inl rfl) e, c⟩
  | dT kvs =>
    obtain ⟨z, y, xs, r, ob, es, ep, e, c⟩ := x
    exact ⟨z, y, xs, Paired.mapP r fun p q z => ⟨z.1, ht _ _ z.2.1, z.2.2⟩, ob, es, ep, k _ _ (.inl rfl) e, c⟩
  | set S n => obtain ⟨ob, es, ep, t, e, c⟩ := x; exact ⟨ob, es, ep, t, k _ _ (.inl rfl) e, c⟩
  | ins C dx fs =>
    obtain ⟨d, z, ne, e, mA, ⟨od, es, ep, e2, c⟩, r⟩ := x
    exact ⟨ho _ d, z, ne, k _ _ (.inl rfl) e, mA, ⟨od, es, ep, k _ _ (.inr d) e2, c⟩, r⟩
  | own y => obtain ⟨ob, e⟩ := x; exact ⟨ob, k _ _ (.inl rfl) e⟩
  | xd fs => obtain ⟨mA, ⟨od, es, ep, e, c⟩, r⟩ := x; exact ⟨mA, ⟨od, es, ep, k _ _ (.inl rfl) e, c⟩, r⟩
  | rng lo hi => obtain ⟨t, u, v, e⟩ := x; exact ⟨t, u, v, k _ _ (.inl rfl) e⟩
  | frz ob u ih => obtain ⟨e, q⟩ := x; exact ⟨k _ _ (.inl rfl) e, ih q⟩
  | tbl ps =>
    have e : h.get? a = some { cls := .none, data := .fields ps } := x
    show h'.get? a = some { cls := .none, data := .fields ps }
    exact k a _ (.inl rfl) e
  | met f y =>
    have e : h.get? a = some (PySem.W.methodObj (.ref f) (.ref y)) := x
    show h'.get? a = some (PySem.W.methodObj (.ref f) (.ref y))
    exact k a _ (.inl rfl) e
  | ext φ => obtain ⟨p, ⟨o, e⟩, st⟩ := x; exact ⟨st _ _ p fun o q => k _ _ (.inl rfl) q, ⟨o, k _ _ (.inl rfl) e⟩, st⟩
theorem HOk.lt (x : HOk P w H h) (e : H a = some o) : a < h.objs.size := (x a o e).lt
theorem HOk.fresh (x : HOk P w H h) (e : h.objs.size ≤ a) : H a = none := by
  cases q : H a with
  | none => rfl
  | some u => exact absurd (Nat.lt_of_lt_of_le (x.lt q) e) (Nat.lt_irrefl _)
theorem HOk.kept (x : HOk P w H h) (k : ∀ b u, h.get? b = some u → h'.get? b = some u) : HOk P w H h' := fun a o e =>
  (x a o e).stay (fun b u _ q => k b u q) (fun _ q => q) fun _ _ q => q
theorem HOk.laid (x : HOk P w H h) (k : ∀ b u, h.get? b = some u → h'.get? b = some u) (hp : h.objs.size ≤ a) (new : ObjOk P w (upd H a o) h' a o) : HOk P w (upd H a o) h' := fun b u e => by
  have hn := x.fresh hp
  by_cases hb : b = a
  · subst hb; rw [upd_same] at e; cases e; exact new
  · rw [upd_ne hb] at e
    exact (x b u e).stay (fun c v _ q => k c v q) (fun c q => by rw [upd_ne (ne_of_none q hn)]; exact q) fun c xs q => by rw [upd_ne (ne_of_none q hn)]; exact q
end
def Rd (H : Hp) (a : Addr) (u : HO) : Prop := H a = some u ∨ ∃ o, H a = some (.frz o u)
theorem Rd.ok {P : Program} {w : World} {H : Hp} {h : Heap} {a : Addr} {u : HO} (r : Rd H a u) (x : HOk P w H h) : ObjOk P w H h a u := by
  rcases r with r | ⟨o, r⟩
  · exact x a u r
  · obtain ⟨_, q⟩ := x a _ r
    exact q
def Mut : Option HO → Prop
  | some (.lst _) => True
  | some (.dK _) => True
  | some (.dT _) => True
  | some (.set _ _) => True
  | some (.ins _ _ _) => True
  | some (.ext _) => True
  | _ => False
section
variable {P : Program} {w : World} {H : Hp} {h h' : Heap} {x e : Addr} {o' : HO}
theorem HOk.write (ok : HOk P w H h) (mu : Mut (H x)) (he : e = x ∨ H e = some (.own x)) (k : ∀ b u, b ≠ e → h.get? b = some u → h'.get? b = some u) (heo : ∃ u, h'.get? e = some u)
    (new : ObjOk P w (upd H x o') h' x o') : HOk P w (upd H x o') h' := fun b u q => by
  have nown : ∀ c y, H c = some (.own y) → c ≠ x := fun c y r z => by subst z; rw [r] at mu; exact mu
  have ntup : ∀ c xs, H c = some (.tup xs) → c ≠ x := fun c xs r z => by subst z; rw [r] at mu; exact mu
  by_cases hb : b = x
  · subst hb; rw [upd_same] at q; cases q; exact new
  · rw [upd_ne hb] at q
    by_cases hbe : b = e
    · have q' : H b = some (.own x) := by
        rcases he with z | z
        · exact absurd (hbe.trans z) hb
        · rw [hbe]; exact z
      rw [q] at q'; cases q'
      obtain ⟨v, hv⟩ := heo
      exact ⟨v, by rw [hbe]; exact hv⟩
    · refine (ok b u q).stay (fun c v hc r => k c v ?_ r) (fun c r => by rw [upd_ne (nown c b r)]; exact r) fun c xs r => by rw [upd_ne (ntup c xs r)]; exact r
      rcases hc with rfl | hc
      · exact hbe
      · rintro rfl
        rcases he with z | z
        · exact nown c b hc z
        · rw [hc] at z; cases z; exact hb rfl
end
structure Un (fs ex : List Addr) (H H' : Hp) (h h' : Heap) : Prop where
  keep : ∀ b o, h.get? b = some o → H b = none → b ∉ fs → b ∉ ex → h'.get? b = some o
  slot : ∀ b o, h.get? b = some o → H b = none → b ∈ fs → b ∉ ex → ∃ sl, h'.get? b = some { o with slots := sl }
  free : ∀ b o, h.get? b = some o → H b = none → b ∉ ex → H' b = none
  there : ∀ b o, h.get? b = some o → b ∉ ex → ∃ o', h'.get? b = some o'
  tups : ∀ b xs, H b = some (.tup xs) → H' b = some (.tup xs)
  frzs : ∀ b o u, H b = some (.frz o u) → H' b = some (.frz o u)
  tbls : ∀ b ps, H b = some (.tbl ps) → ∃ more, H' b = some (.tbl (ps ++ more))
section
variable {fs fs' ex ex' : List Addr} {H H1 H2 : Hp} {h h1 h2 h' : Heap} {a x e : Addr} {o : HO}
theorem Un.any (u : Un fs ex H H1 h h1) {b : Addr} {ob : Obj} (q : h.get? b = some ob) (n : H b = none) (hx : b ∉ ex) : ∃ sl, h1.get? b = some { ob with slots := sl } := by
  by_cases hb : b ∈ fs
  · exact u.slot b ob q n hb hx
  · exact ⟨ob.slots, u.keep b ob q n hb hx⟩
theorem Un.kept (k : ∀ b u, h.get? b = some u → h'.get? b = some u) : Un fs ex H H h h' :=
  ⟨fun b ob q _ _ _ => k b ob q, fun b ob q _ _ _ => ⟨ob.slots, k b ob q⟩, fun _ _ _ n _ => n, fun b ob q _ => ⟨ob, k b ob q⟩, fun _ _ q => q, fun _ _ _ q => q, fun _ ps q => ⟨#[], by rw [q]; simp⟩⟩
theorem Un.refl : Un fs ex H H h h := Un.kept fun _ _ q => q
theorem Un.laid (k : ∀ b u, h.get? b = some u → h'.get? b = some u) (hp : h.objs.size ≤ a) (hn : H a = none) : Un fs ex H (upd H a o) h h' where
  keep := fun b u q _ _ _ => k b u q
  slot := fun b u q _ _ _ => ⟨u.slots, k b u q⟩
  free := fun b u q n _ => by rw [upd_ne (Nat.ne_of_lt (Nat.lt_of_lt_of_le (Heap.lt_size q) hp))]; exact n
  there := fun b u q _ => ⟨u, k b u q⟩
  tups := fun b xs q => by rw [upd_ne (ne_of_none q hn)]; exact q
  frzs := fun b u xs q => by rw [upd_ne (ne_of_none q hn)]; exact q
  tbls := fun b ps q => ⟨#[], by rw [upd_ne (ne_of_none q hn), q]; simp⟩
theorem Un.write (mu : Mut (H x)) (he : e = x ∨ H e = some (.own x)) (k : ∀ b u, b ≠ e → h.get? b = some u → h'.get? b = some u) (heo : ∃ u, h'.get? e = some u) : Un fs ex H (upd H x o) h h' := by
  have hx : ∀ b, H b = none → b ≠ x := fun b n z => by subst z; rw [n] at mu; exact mu
  have hb : ∀ b, H b = none → b ≠ e := fun b n z => by
    subst z
    rcases he with r | r
    · exact hx b n r
    · rw [n] at r; cases r
  have hm : ∀ b u, H b = some u → ¬ Mut (some u) → b ≠ x := fun b u q nm z => by subst z; rw [q] at mu; exact nm mu
  refine ⟨fun b u q n _ _ => k b u (hb b n) q, fun b u q n _ _ => ⟨u.slots, k b u (hb b n) q⟩, fun b u q n _ => by rw [upd_ne (hx b n)]; exact n, fun b u q _ => ?_,
    fun b xs q => by rw [upd_ne (hm b _ q fun z => z)]; exact q, fun b u xs q => by rw [upd_ne (hm b _ q fun z => z)]; exact q, fun b ps q => ⟨#[], by rw [upd_ne (hm b _ q fun z => z), q]; simp⟩⟩
  by_cases hbe : b = e
  · subst hbe; exact heo
  · exact ⟨u, k b u hbe q⟩
end
def trk (h : Heap) (H : Hp) : List Addr := (List.range h.objs.size).filter fun a => (H a).isSome
def hidT (h : Heap) (H : Hp) : Heap := PySem.W.hideAll h (trk h H)
theorem hidT_size (h : Heap) (H : Hp) : (hidT h H).objs.size = h.objs.size := PySem.W.hideAll_size _ _
theorem hidT_get {h : Heap} {H : Hp} {b : Addr} {o : Obj} (e : h.get? b = some o) (n : H b = none) : (hidT h H).get? b = some o :=
  PySem.W.hideAll_get _ e fun hm => by
    have q : (H b).isSome = true := (List.mem_filter.mp hm).2
    rw [n] at q; simp at q
theorem of_hidT {h : Heap} {H : Hp} {b : Addr} {o : Obj} (e : (hidT h H).get? b = some o) : h.get? b = some o ∧ H b = none := by
  have e' : h.get? b = some o := PySem.W.of_hideAll (trk h H) e
  refine ⟨e', ?_⟩
  cases q : H b with
  | none => rfl
  | some x =>
    have hm : b ∈ trk h H := List.mem_filter.mpr ⟨List.mem_range.mpr (Heap.lt_size e'), by simp [q]⟩
    have z : (hidT h H).get? b = none := PySem.W.hideAll_none (trk h H) hm
    rw [z] at e; cases e
def allNews (g h : Heap) (L : Addr) : List (Addr × Obj) := (List.range h.objs.size).filterMap fun a => if a = L ∨ (g.get? a).isSome = true then none else (h.get? a).map fun o => (a, o)
def rest (g h : Heap) (L d : Addr) : List (Addr × Obj) := (allNews g h L).filter fun p => decide (p.1 ≠ d)
end L2
namespace L2
open PySem PySem.Spec PyProof.Rows
structure Mod (K : PySem.W.Frag) (mg : Str → Option Value) (base : Heap) : Prop where
  kin : K.In base
  glob : base.Ns mainGlobals mg
  blt : ∃ mb, base.Ns builtinsNs mb ∧ ∀ x : Str, x ≠ "__name__" → mb x = bootBuiltins x
  nolimit : base.NoLimit
structure Cx where
  prog : Program
  w : World
  K : PySem.W.Frag
  mg : Str → Option Value
  base : Heap
  A : Around
  N : List Str
  s₀ : Shared
  H₀ : Hp
  env : Env
  outer : List Env
  stack : List Env
  ex : List Addr
  fn : Str → Bool
  calm : Bool
  pn : List (Addr × Obj)
  xe : Value → Shared → Prop
def frs (l : List Env) : List Addr := l.filterMap (·.frame)
abbrev Cx.fs (X : Cx) : List Addr := frs X.outer
def Vis (sc : Scope) (x : Str) : Prop := sc.names.lookup x = some .local ∨ sc.names.lookup x = some .cell ∨ sc.names.lookup x = some .free
def Loc (sc : Scope) (x : Str) : Prop := sc.names.lookup x = some .local ∨ sc.names.lookup x = some .cell
def Look (env : Env) (h : Heap) (m : Str → Option Value) (x : Str) (u : Value) : Prop :=
  (env.kindOf x = some .local ∧ m x = some u) ∨ ((env.kindOf x = some .cell ∨ env.kindOf x = some .free) ∧ ∃ c, env.cells.lookup x = some c ∧ h.IsCell c (some u))
structure Cx.Ok (X : Cx) : Prop where
  mod : Mod X.K X.mg X.base
  kind : X.env.scope.kind = .function
  glob : X.env.globals = mainGlobals
  blt : X.env.builtins = builtinsNs
  above : X.s₀.heap.objs.size ≤ X.env.locals
  inj : ∀ x y c, X.env.cells.lookup x = some c → X.env.cells.lookup y = some c → x = y
  has : ∀ x, (X.env.kindOf x = some .cell ∨ X.env.kindOf x = some .free) → ∃ c, X.env.cells.lookup x = some c
  cab : ∀ x c, X.fn x = true → X.env.cells.lookup x = some c → X.s₀.heap.objs.size ≤ c
  hd : X.calm = true → X.A.handled = none
  frames : X.A.frames = some X.stack
  stk : X.stack = X.outer ∨ (X.stack = X.env :: X.outer ∧ X.env.frame = some X.env.locals)
  exf : ∀ b ∈ X.ex, b ≠ X.env.locals ∧ ∀ x c, X.env.cells.lookup x = some c → c ≠ b
  bs : ∀ b o, X.base.get? b = some o → X.s₀.heap.get? b = some o ∧ X.H₀ b = none
  bsz : X.base.objs.size ≤ X.s₀.heap.objs.size
  noex : ∀ b o, X.base.get? b = some o → b ∉ X.ex
  exfs : ∀ b ∈ X.ex, b ∉ X.fs
  funs : X.s₀.heap.FunFrames X.base X.outer
  frf : ∀ b ∈ X.fs, X.H₀ b = none
structure Inv (X : Cx) (pins : List (Addr × Obj)) (σ : List (Option V)) (H : Hp) (s : Shared) : Prop where
  ok : X.Ok
  os : s.os = X.s₀.os
  bare : AllBare s.gens
  base : Un X.fs X.ex X.H₀ H X.s₀.heap s.heap
  loc : ∃ m, s.heap.Ns X.env.locals m ∧ ∀ (i : Nat) (x : Str) (v : V), X.N[i]? = some x → σ[i]? = some (some v) → Vis X.env.scope x → ∃ u, RelV v u ∧ Look X.env s.heap m x u
  cell : ∀ x c, X.env.cells.lookup x = some c → ∃ v, s.heap.IsCell c v
  free : H X.env.locals = none
  freeC : ∀ x c, X.env.cells.lookup x = some c → H c = none
  pin : ∀ p ∈ X.pn ++ pins, s.heap.get? p.1 = some p.2 ∧ H p.1 = none ∧ p.1 ≠ X.env.locals ∧ p.1 ∉ X.fs ∧ ∀ v, p.2.data ≠ .cell v
  hok : HOk X.prog X.w H s.heap
  len : σ.length = X.N.length
section
variable {X : Cx} {pins : List (Addr × Obj)} {σ : List (Option V)} {H H' : Hp} {s : Shared} {h' : Heap}
theorem Cx.Ok.nofr (ok : X.Ok) {b : Addr} {o : Obj} (e : X.base.get? b = some o) : b ∉ X.fs := fun hb => by
  have := (ok.funs.mem hb).1
  rw [e] at this; cases this
theorem Inv.bs (I : Inv X pins σ H s) : ∀ b o, X.base.get? b = some o → s.heap.get? b = some o ∧ H b = none := fun b o e =>
  ⟨I.base.keep b o (I.ok.bs b o e).1 (I.ok.bs b o e).2 (I.ok.nofr e) (I.ok.noex b o e), I.base.free b o (I.ok.bs b o e).1 (I.ok.bs b o e).2 (I.ok.noex b o e)⟩
theorem Inv.bk (I : Inv X pins σ H s) : ∀ b o, X.base.get? b = some o → s.heap.get? b = some o := fun b o e => (I.bs b o e).1
theorem Inv.mod (I : Inv X pins σ H s) : Mod X.K X.mg X.base := I.ok.mod
theorem Inv.kIn (I : Inv X pins σ H s) : X.K.In s.heap := I.ok.mod.kin.keeps I.bk
theorem Inv.lt (I : Inv X pins σ H s) : X.env.locals < s.heap.objs.size := let ⟨_, hn, _⟩ := I.loc; hn.lt
theorem Inv.sz (I : Inv X pins σ H s) : X.s₀.heap.objs.size ≤ s.heap.objs.size := Nat.le_trans I.ok.above (Nat.le_of_lt I.lt)
theorem Inv.nofs (I : Inv X pins σ H s) {a : Addr} (h : s.heap.objs.size ≤ a) : a ∉ X.fs := fun hb => by
  obtain ⟨_, o, ho, _⟩ := I.ok.funs.mem hb
  exact absurd (Nat.lt_of_lt_of_le (Heap.lt_size ho) (Nat.le_trans I.sz h)) (Nat.lt_irrefl _)
theorem Inv.cne (I : Inv X pins σ H s) : ∀ x c, X.env.cells.lookup x = some c → c ≠ X.env.locals := fun x c e z => by
  obtain ⟨v, o, ho, hd⟩ := I.cell x c e
  obtain ⟨m, ⟨o', es, ep, ho', hd', _⟩, _⟩ := I.loc
  rw [z, ho'] at ho; cases ho; rw [hd'] at hd; cases hd
theorem Inv.funs (I : Inv X pins σ H s) : s.heap.FunFrames X.base X.outer := by
  have all : ∀ (l : List Env), (∀ b ∈ frs l, b ∈ X.fs) → X.s₀.heap.FunFrames X.base l → s.heap.FunFrames X.base l := by
    intro l
    induction l with
    | nil => intro _ _; trivial
    | cons env r ih =>
      intro hs hl
      obtain ⟨hk, ⟨L, o, hf, hn, ho, hd⟩, hr⟩ := hl
      have hL : L ∈ X.fs := hs L (by unfold frs; rw [List.filterMap_cons, hf]; exact List.mem_cons_self)
      obtain ⟨sl, e⟩ := I.base.slot L o ho (I.ok.frf L hL) hL fun z => I.ok.exfs L z hL
      exact ⟨hk, ⟨L, _, hf, hn, e, hd⟩, ih (fun b hb => hs b (by unfold frs; rw [List.filterMap_cons, hf]; exact List.mem_cons_of_mem _ hb)) hr⟩
  exact all X.outer (fun _ hb => hb) I.ok.funs
theorem Inv.stack (I : Inv X pins σ H s) : s.heap.FunFrames X.base X.stack := by
  rcases I.ok.stk with e | ⟨e, hf⟩
  · rw [e]; exact I.funs
  · rw [e]
    obtain ⟨m, hn, _⟩ := I.loc
    refine .cons (by rw [I.ok.kind]; decide) hf hn ?_ I.funs
    exact Heap.get?_none_of_le (Nat.le_trans I.ok.bsz I.ok.above)
theorem Inv.stkSub (I : Inv X pins σ H s) : ∀ b ∈ frs X.stack, b ∈ X.env.locals :: X.fs := fun b hb => by
  rcases I.ok.stk with e | ⟨e, hf⟩
  · rw [e] at hb; exact List.mem_cons_of_mem _ hb
  · rw [e] at hb
    unfold frs at hb
    rw [List.filterMap_cons, hf] at hb
    exact hb
theorem Inv.stkFree (I : Inv X pins σ H s) : ∀ b ∈ frs X.stack, H b = none := fun b hb => by
  rcases List.mem_cons.mp (I.stkSub b hb) with e | hb
  · rw [e]; exact I.free
  · obtain ⟨_, o, ho, _⟩ := I.ok.funs.mem hb
    exact I.base.free b o ho (I.ok.frf b hb) fun z => I.ok.exfs b z hb
theorem Inv.step {g' : Array GenState} {t' : Nat} {d' : Drawn} {ch : List Addr} (I : Inv X pins σ H s)
    (hch : ∀ b ∈ ch, (b ∈ X.ex ∨ X.s₀.heap.objs.size ≤ b) ∧ b ≠ X.env.locals ∧ (∀ x c, X.env.cells.lookup x = some c → c ≠ b) ∧ ∀ p ∈ X.pn ++ pins, p.1 ≠ b)
    (keep : ∀ b o, b ≠ X.env.locals → b ∉ X.fs → b ∉ ch → s.heap.get? b = some o → H b = none → h'.get? b = some o)
    (slot : ∀ b o, b ≠ X.env.locals → b ∈ X.fs → b ∉ ch → s.heap.get? b = some o → H b = none → ∃ sl, h'.get? b = some { o with slots := sl }) (free : ∀ b o, b ∉ ch → s.heap.get? b = some o → H b = none → H' b = none)
    (there : ∀ b o, b ∉ ch → s.heap.get? b = some o → ∃ o', h'.get? b = some o')
    (tups : ∀ b xs, H b = some (.tup xs) → H' b = some (.tup xs)) (frzs : ∀ b o u, H b = some (.frz o u) → H' b = some (.frz o u)) (tbls : ∀ b ps, H b = some (.tbl ps) → ∃ more, H' b = some (.tbl (ps ++ more)))
    (ns : ∀ m, s.heap.Ns X.env.locals m → h'.Ns X.env.locals m) (hok : HOk X.prog X.w H' h') (hg : AllBare g') :
    Inv X pins σ H' { s with heap := h', gens := g', drawn := d', toks := t' } := by
  have neL : ∀ b o, X.s₀.heap.get? b = some o → b ≠ X.env.locals := fun b o e => Nat.ne_of_lt (Nat.lt_of_lt_of_le (Heap.lt_size e) I.ok.above)
  have neC : ∀ b o, X.s₀.heap.get? b = some o → b ∉ X.ex → b ∉ ch := fun b o e hx hb => by
    rcases (hch b hb).1 with z | z
    · exact hx z
    · exact absurd (Nat.lt_of_lt_of_le (Heap.lt_size e) z) (Nat.lt_irrefl _)
  have cellK : ∀ x c, X.env.cells.lookup x = some c → ∀ v, s.heap.IsCell c v → h'.IsCell c v := fun x c e v ⟨o, ho, hd⟩ => by
    have nch : c ∉ ch := fun z => (hch c z).2.2.1 x c e rfl
    by_cases hc : c ∈ X.fs
    · obtain ⟨sl, q⟩ := slot c o (I.cne x c e) hc nch ho (I.freeC x c e)
      exact ⟨_, q, hd⟩
    · exact ⟨o, keep c o (I.cne x c e) hc nch ho (I.freeC x c e), hd⟩
  refine ⟨I.ok, I.os, hg, ⟨fun b o e n hb hx => ?_, fun b o e n hb hx => ?_, fun b o e n hx => ?_, fun b o e hx => ?_, fun b xs e => tups b xs (I.base.tups b xs e), fun b o xs e => frzs b o xs (I.base.frzs b o xs e), fun b ps e => ?_⟩, ?_, fun x c e => ?_, ?_, fun x c e => ?_, fun p hp => ?_, hok, I.len⟩
  · exact keep b o (neL b o e) hb (neC b o e hx) (I.base.keep b o e n hb hx) (I.base.free b o e n hx)
  · obtain ⟨sl, e1⟩ := I.base.slot b o e n hb hx
    obtain ⟨sl', e2⟩ := slot b _ (neL b o e) hb (neC b o e hx) e1 (I.base.free b o e n hx)
    exact ⟨sl', e2⟩
  · obtain ⟨o', e1⟩ := I.base.there b o e hx
    exact free b o' (neC b o e hx) e1 (I.base.free b o e n hx)
  · obtain ⟨o', e1⟩ := I.base.there b o e hx
    exact there b o' (neC b o e hx) e1
  · obtain ⟨m1, e1⟩ := I.base.tbls b ps e
    obtain ⟨m2, e2⟩ := tbls b _ e1
    exact ⟨m1 ++ m2, by rw [e2, Array.append_assoc]⟩
  · obtain ⟨m, hn, hl⟩ := I.loc
    refine ⟨m, ns m hn, fun i x v e1 e2 e3 => ?_⟩
    obtain ⟨u, r, l⟩ := hl i x v e1 e2 e3
    refine ⟨u, r, ?_⟩
    rcases l with l | ⟨k, c, e, z⟩
    · exact .inl l
    · exact .inr ⟨k, c, e, cellK x c e _ z⟩
  · obtain ⟨v, z⟩ := I.cell x c e
    exact ⟨v, cellK x c e v z⟩
  · obtain ⟨m, ⟨o, _, _, ho, _⟩, _⟩ := I.loc
    exact free _ o (fun z => (hch _ z).2.1 rfl) ho I.free
  · obtain ⟨v, o, ho, hd⟩ := I.cell x c e
    exact free c o (fun z => (hch c z).2.2.1 x c e rfl) ho (I.freeC x c e)
  · obtain ⟨e, n, ne, nf, d⟩ := I.pin p hp
    have nch : p.1 ∉ ch := fun z => (hch p.1 z).2.2.2 p hp rfl
    exact ⟨keep p.1 p.2 ne nf nch e n, free p.1 p.2 nch e n, ne, nf, d⟩
theorem Inv.un {t' : Nat} (I : Inv X pins σ H s) (u : Un X.fs [] H H' s.heap h') (hok : HOk X.prog X.w H' h') : Inv X pins σ H' { s with heap := h', toks := t' } := by
  obtain ⟨m, ⟨o, es, ep, ho, r⟩, _⟩ := id I.loc
  obtain ⟨sl, hL⟩ := u.any ho I.free (by simp)
  exact I.step (g' := s.gens) (d' := s.drawn) (ch := []) (fun _ z => nomatch z) (fun b o _ hb _ e n => u.keep b o e n hb (by simp)) (fun b o _ hb _ e n => u.slot b o e n hb (by simp)) (fun b o _ e n => u.free b o e n (by simp)) (fun b o _ e => u.there b o e (by simp)) u.tups u.frzs u.tbls (fun m' hm => by
    obtain ⟨o', es', ep', ho', r'⟩ := hm
    rw [ho] at ho'; cases ho'
    exact ⟨_, es', ep', hL, r'⟩) hok I.bare
theorem Inv.call {g' : Array GenState} {t' : Nat} {d' : Drawn} {ch : List Addr} (I : Inv X pins σ H s) (u : Un (frs X.stack) ch H H' s.heap h') (hok : HOk X.prog X.w H' h') (hg : AllBare g')
    (hch : ∀ b ∈ ch, (b ∈ X.ex ∨ X.s₀.heap.objs.size ≤ b) ∧ b ≠ X.env.locals ∧ (∀ x c, X.env.cells.lookup x = some c → c ≠ b) ∧ ∀ p ∈ X.pn ++ pins, p.1 ≠ b) :
    Inv X pins σ H' { s with heap := h', gens := g', drawn := d', toks := t' } := by
  obtain ⟨m, ⟨o, es, ep, ho, r⟩, _⟩ := id I.loc
  obtain ⟨sl, hL⟩ := u.any ho I.free fun z => (hch _ z).2.1 rfl
  exact I.step (ch := ch) hch (fun b o hL hb hc e n => u.keep b o e n (fun z => (List.mem_cons.mp (I.stkSub b z)).elim hL hb) hc) (fun b o _ _ hc e n => u.any e n hc) (fun b o hc e n => u.free b o e n hc) (fun b o hc e => u.there b o e hc) u.tups u.frzs u.tbls (fun m' hm => by
    obtain ⟨o', es', ep', ho', r'⟩ := hm
    rw [ho] at ho'; cases ho'
    exact ⟨_, es', ep', hL, r'⟩) hok hg
theorem Inv.turned {t' : Nat} {it : Addr} (I : Inv X pins σ H s) (k : ∀ b o, b ≠ it → s.heap.get? b = some o → h'.get? b = some o) (hn : H it = none) (hL : it ≠ X.env.locals)
    (h1 : it ∈ X.ex ∨ X.s₀.heap.objs.size ≤ it) (h2 : ∀ x c, X.env.cells.lookup x = some c → c ≠ it) (h3 : ∀ p ∈ X.pn ++ pins, p.1 ≠ it) : Inv X pins σ H { s with heap := h', toks := t' } := by
  have nit : ∀ b u, H b = some u → b ≠ it := fun b u e z => by rw [z, hn] at e; cases e
  refine I.step (g' := s.gens) (d' := s.drawn) (ch := [it]) (fun b hb => ?_) (fun b o _ _ hc e _ => k b o (fun z => hc (by simp [z])) e) (fun b o _ _ hc e _ => ⟨o.slots, k b o (fun z => hc (by simp [z])) e⟩) (fun _ _ _ _ n => n)
    (fun b o hc e => ⟨o, k b o (fun z => hc (by simp [z])) e⟩) (fun _ _ e => e) (fun _ _ _ e => e) (fun b ps e => ⟨#[], by rw [e]; simp⟩) (fun m hm => ?_) (fun b u e => ?_) I.bare
  · have e : b = it := by simpa using hb
    subst e
    exact ⟨h1, hL, h2, h3⟩
  · obtain ⟨o, es, ep, ho, r⟩ := hm
    exact ⟨o, es, ep, k _ o (Ne.symm hL) ho, r⟩
  · refine (I.hok b u e).stay (fun c v hc q => k c v ?_ q) (fun _ q => q) fun _ _ q => q
    rcases hc with z | z
    · rw [z]; exact nit b u e
    · exact nit c _ z
theorem Inv.tok (I : Inv X pins σ H s) (t : Nat) : Inv X pins σ H { s with toks := t } := I.un (h' := s.heap) (t' := t) Un.refl I.hok
theorem Inv.kept {t' : Nat} (I : Inv X pins σ H s) (k : ∀ b u, s.heap.get? b = some u → h'.get? b = some u) : Inv X pins σ H { s with heap := h', toks := t' } := I.un (Un.kept k) (I.hok.kept k)
theorem Inv.laid {a : Addr} {o : HO} {t' : Nat} (I : Inv X pins σ H s) (k : ∀ b u, s.heap.get? b = some u → h'.get? b = some u) (hp : s.heap.objs.size ≤ a) (new : ObjOk X.prog X.w (upd H a o) h' a o) :
    Inv X pins σ (upd H a o) { s with heap := h', toks := t' } := I.un (Un.laid k hp (I.hok.fresh hp)) (I.hok.laid k hp new)
theorem Inv.write {x e : Addr} {o : HO} {t' : Nat} (I : Inv X pins σ H s) (mu : Mut (H x)) (he : e = x ∨ H e = some (.own x)) (k : ∀ b u, b ≠ e → s.heap.get? b = some u → h'.get? b = some u) (heo : ∃ u, h'.get? e = some u)
    (new : ObjOk X.prog X.w (upd H x o) h' x o) : Inv X pins σ (upd H x o) { s with heap := h', toks := t' } := I.un (Un.write mu he k heo) (I.hok.write mu he k heo new)
theorem Inv.pins_of {pins' : List (Addr × Obj)} (I : Inv X pins σ H s) (h : ∀ p ∈ pins', s.heap.get? p.1 = some p.2 ∧ H p.1 = none ∧ p.1 ≠ X.env.locals ∧ p.1 ∉ X.fs ∧ ∀ v, p.2.data ≠ .cell v) : Inv X pins' σ H s :=
  ⟨I.ok, I.os, I.bare, I.base, I.loc, I.cell, I.free, I.freeC, fun p hp => (List.mem_append.mp hp).elim (fun z => I.pin p (List.mem_append_left _ z)) (h p), I.hok, I.len⟩
theorem nodup_ix {N : List Str} (hN : N.Nodup) {i j : Nat} {x : Str} (a : N[i]? = some x) (b : N[j]? = some x) : i = j := by
  obtain ⟨h1, e1⟩ := List.getElem?_eq_some_iff.mp a
  obtain ⟨h2, e2⟩ := List.getElem?_eq_some_iff.mp b
  exact (List.getElem_inj hN).mp (e1.trans e2.symm)
theorem store_ok2 {M : Model} {A : Around} {E : Value → Shared → Prop} {i : Nat} {x : Str} {v : V} {u : Value} {Q : Unit → Shared → Prop} (I : Inv X pins σ H s) (hN : X.N.Nodup) (hi : X.N[i]? = some x) (hx : Loc X.env.scope x) (r : RelV v u)
    (h : ∀ s', Inv X pins (σ.set i (some v)) H s' → (∃ a, Heap.SameBut a s.heap s'.heap ∧ (a = X.env.locals ∨ X.env.cells.lookup x = some a)) → Q () s') (hf : X.fn x = true ∨ X.env.scope.names.lookup x = some .local := by first | exact .inl rfl | exact .inr rfl | assumption) : wpAny M A (storeName X.env x u) Q E s := by
  obtain ⟨m, hn, hl⟩ := id I.loc
  have hcls : (X.env.scope.kind == .class || (X.env.scope.kind == .module && X.env.locals != X.env.globals)) = false := by rw [I.ok.kind]; rfl
  have hiσ : i < σ.length := by rw [I.len]; exact (List.getElem?_eq_some_iff.mp hi).1
  have cne := I.cne
  have tracked : ∀ {a : Addr} {h' : Heap}, (∃ o, s.heap.get? a = some o ∧ H a = none) → Heap.SameBut a s.heap h' → HOk X.prog X.w H h' := fun {a h'} ha hs b ob e => by
    obtain ⟨_, _, hfree⟩ := ha
    refine (I.hok b ob e).stay (fun c w' hc q => (hs.2 c ?_).trans q) (fun _ q => q) fun _ _ q => q
    rintro rfl
    rcases hc with rfl | hc
    · rw [hfree] at e; cases e
    · rw [hfree] at hc; cases hc
  rcases hx with hk | hk
  · refine wpAny_storeName_local hk hn (fun h' hn' hs => ?_) hcls
    obtain ⟨oL, _, _, hoL, _⟩ := id hn
    refine h _ ⟨I.ok, I.os, I.bare, ⟨fun b o e n hb hx => ?_, fun b o e n hb hx => ?_, I.base.free, fun b o e hx => ?_, I.base.tups, I.base.frzs, I.base.tbls⟩, ⟨_, hn', fun j y v' e1 e2 e3 => ?_⟩, fun y c e => ?_, I.free, I.freeC, fun p hp => ?_, tracked ⟨oL, hoL, I.free⟩ hs, by simpa using I.len⟩ ⟨_, hs, .inl rfl⟩
    · exact (hs.2 b (Nat.ne_of_lt (Nat.lt_of_lt_of_le (Heap.lt_size e) I.ok.above))).trans (I.base.keep b o e n hb hx)
    · obtain ⟨sl, e1⟩ := I.base.slot b o e n hb hx
      exact ⟨sl, (hs.2 b (Nat.ne_of_lt (Nat.lt_of_lt_of_le (Heap.lt_size e) I.ok.above))).trans e1⟩
    · obtain ⟨o', e1⟩ := I.base.there b o e hx
      exact ⟨o', (hs.2 b (Nat.ne_of_lt (Nat.lt_of_lt_of_le (Heap.lt_size e) I.ok.above))).trans e1⟩
    · by_cases hj : j = i
      · subst hj
        rw [hi] at e1; cases e1
        rw [List.getElem?_set_self hiσ] at e2
        cases e2
        exact ⟨u, r, .inl ⟨hk, by simp⟩⟩
      · rw [List.getElem?_set_ne (Ne.symm hj)] at e2
        obtain ⟨u', r', q⟩ := hl j y v' e1 e2 e3
        refine ⟨u', r', ?_⟩
        rcases q with ⟨k, e⟩ | ⟨k, c, e, z⟩
        · refine .inl ⟨k, ?_⟩
          have : y ≠ x := fun e => hj (nodup_ix hN e1 (e ▸ hi))
          simp [this, e]
        · exact .inr ⟨k, c, e, z.sameBut hs (cne y c e)⟩
    · obtain ⟨w', z⟩ := I.cell y c e
      exact ⟨w', z.sameBut hs (cne y c e)⟩
    · obtain ⟨e, n, ne, nf, d⟩ := I.pin p hp
      exact ⟨(hs.2 p.1 ne).trans e, n, ne, nf, d⟩
  · have hfn : X.fn x = true := by
      rcases hf with z | z
      · exact z
      · rw [z] at hk; cases hk
    obtain ⟨c, hc⟩ := I.ok.has x (.inl hk)
    obtain ⟨w', z⟩ := I.cell x c hc
    refine wpAny_storeName_cell I.ok.kind hk hc z (fun h' hc' hs => ?_)
    obtain ⟨oc, hoc, hocd⟩ := id z
    refine h { s with heap := h' } ⟨I.ok, I.os, I.bare, ⟨fun b o e n hb hx => ?_, fun b o e n hb hx => ?_, I.base.free, fun b o e hx => ?_, I.base.tups, I.base.frzs, I.base.tbls⟩, ⟨m, hn.sameBut hs (Ne.symm (cne x c hc)), fun j y v' e1 e2 e3 => ?_⟩, fun y c' e => ?_, I.free, I.freeC, fun p hp => ?_, tracked ⟨oc, hoc, I.freeC x c hc⟩ hs, by simpa using I.len⟩ ⟨c, hs, .inr hc⟩
    · exact (hs.2 b (Nat.ne_of_lt (Nat.lt_of_lt_of_le (Heap.lt_size e) (I.ok.cab x c hfn hc)))).trans (I.base.keep b o e n hb hx)
    · obtain ⟨sl, e1⟩ := I.base.slot b o e n hb hx
      exact ⟨sl, (hs.2 b (Nat.ne_of_lt (Nat.lt_of_lt_of_le (Heap.lt_size e) (I.ok.cab x c hfn hc)))).trans e1⟩
    · obtain ⟨o', e1⟩ := I.base.there b o e hx
      exact ⟨o', (hs.2 b (Nat.ne_of_lt (Nat.lt_of_lt_of_le (Heap.lt_size e) (I.ok.cab x c hfn hc)))).trans e1⟩
    · by_cases hj : j = i
      · subst hj
        rw [hi] at e1; cases e1
        rw [List.getElem?_set_self hiσ] at e2
        cases e2
        exact ⟨u, r, .inr ⟨.inl hk, c, hc, hc'⟩⟩
      · rw [List.getElem?_set_ne (Ne.symm hj)] at e2
        obtain ⟨u', r', q⟩ := hl j y v' e1 e2 e3
        refine ⟨u', r', ?_⟩
        rcases q with q | ⟨k, c', e, z'⟩
        · exact .inl q
        · refine .inr ⟨k, c', e, z'.sameBut hs ?_⟩
          rintro rfl
          exact hj (nodup_ix hN e1 (I.ok.inj _ _ _ e hc ▸ hi))
    · by_cases hcc : c' = c
      · subst hcc; exact ⟨_, hc'⟩
      · obtain ⟨w2, z2⟩ := I.cell y c' e
        exact ⟨w2, z2.sameBut hs hcc⟩
    · obtain ⟨e, n, ne, nf, d⟩ := I.pin p hp
      refine ⟨(hs.2 p.1 ?_).trans e, n, ne, nf, d⟩
      intro q
      rw [q, hoc] at e
      have q' : oc = p.2 := Option.some.inj e
      exact d w' (by rw [← q']; exact hocd)
theorem store_ok {M : Model} {A : Around} {E : Value → Shared → Prop} {i : Nat} {x : Str} {v : V} {u : Value} {Q : Unit → Shared → Prop} (I : Inv X pins σ H s) (hN : X.N.Nodup) (hi : X.N[i]? = some x) (hx : Loc X.env.scope x) (r : RelV v u)
    (h : ∀ s', Inv X pins (σ.set i (some v)) H s' → Q () s') (hf : X.fn x = true ∨ X.env.scope.names.lookup x = some .local := by first | exact .inl rfl | exact .inr rfl | assumption) : wpAny M A (storeName X.env x u) Q E s :=
  store_ok2 I hN hi hx r (fun s' I' _ => h s' I') hf
theorem Inv.call' {s' : Shared} {ch : List Addr} (I : Inv X pins σ H s) (ho : s'.os = s.os) (u : Un (frs X.stack) ch H H' s.heap s'.heap) (hok : HOk X.prog X.w H' s'.heap) (hg : AllBare s'.gens)
    (hch : ∀ b ∈ ch, (b ∈ X.ex ∨ X.s₀.heap.objs.size ≤ b) ∧ b ≠ X.env.locals ∧ (∀ x c, X.env.cells.lookup x = some c → c ≠ b) ∧ ∀ p ∈ X.pn ++ pins, p.1 ≠ b) : Inv X pins σ H' s' := by
  obtain ⟨h', g', d', t', o'⟩ := s'
  have e : o' = s.os := ho
  subst e
  exact I.call (g' := g') (t' := t') (d' := d') u hok hg hch
end
abbrev XK := Value → Option Addr → Hp → Prop
abbrev St := List (Option V)
abbrev VK := V → Hp → Prop
abbrev TE := St → Hp → VK → Prop
abbrev TT := St → Hp → (Bool → Hp → Prop) → Prop
abbrev TA := St → Hp → (List V → Hp → Prop) → Prop
structure Ends where
  nx : St → Hp → Prop
  rt : VK
  bk : St → Hp → Prop := fun _ _ => False
  ct : St → Hp → Prop := fun _ _ => False
abbrev TS := Ends → St → Hp → Prop
def EP (X : Cx) (pins : List (Addr × Obj)) (σ : St) (Q : VK) (u : Value) (s' : Shared) : Prop := ∃ v H', Inv X pins σ H' s' ∧ RelV v u ∧ Q v H'
def TP (X : Cx) (pins : List (Addr × Obj)) (σ : St) (Q : Bool → Hp → Prop) (b : Bool) (s' : Shared) : Prop := ∃ H', Inv X pins σ H' s' ∧ Q b H'
def AP (X : Cx) (pins : List (Addr × Obj)) (σ : St) (Q : List V → Hp → Prop) (us : List Value) (s' : Shared) : Prop := ∃ vs H', Inv X pins σ H' s' ∧ Vals vs us ∧ Q vs H'
def SP (X : Cx) (pins : List (Addr × Obj)) (D : Ends) (f : Flow) (s' : Shared) : Prop :=
  match f with
  | .next => ∃ σ' H', Inv X pins σ' H' s' ∧ D.nx σ' H'
  | .brk => ∃ σ' H', Inv X pins σ' H' s' ∧ D.bk σ' H'
  | .cont => ∃ σ' H', Inv X pins σ' H' s' ∧ D.ct σ' H'
  | .ret u => ∃ v σ' H', Inv X pins σ' H' s' ∧ RelV v u ∧ D.rt v H'
def PE (X : Cx) (e : Expr) (t : TE) : Prop :=
  ∀ (pins : List (Addr × Obj)) (s : Shared) (σ : St) (H : Hp) (Q : VK), Inv X pins σ H s → t σ H Q → wpAny (model X.prog X.w) X.A (eval e X.env) (EP X pins σ Q) X.xe s
def PT (X : Cx) (e : Expr) (t : TT) : Prop :=
  ∀ (pins : List (Addr × Obj)) (s : Shared) (σ : St) (H : Hp) (Q : Bool → Hp → Prop), Inv X pins σ H s → t σ H Q → wpAny (model X.prog X.w) X.A (isTrue e X.env (eval e X.env)) (TP X pins σ Q) X.xe s
def PW (X : Cx) (e : Expr) (t : TT) : Prop :=
  ∀ (whole : Sem Value) (pins : List (Addr × Obj)) (s : Shared) (σ : St) (H : Hp) (Q : Bool → Hp → Prop), Inv X pins σ H s → t σ H Q → wpAny (model X.prog X.w) X.A (isTrue e X.env whole) (TP X pins σ Q) X.xe s
theorem PW.pt {X : Cx} {e : Expr} {t : TT} (h : PW X e t) : PT X e t := h _
def PA (X : Cx) (es : List Expr) (t : TA) : Prop :=
  ∀ (pos : Pos) (pins : List (Addr × Obj)) (s : Shared) (σ : St) (H : Hp) (Q : List V → Hp → Prop), Inv X pins σ H s → t σ H Q → wpAny (model X.prog X.w) X.A (spliced (backTo pos (starEach es X.env))) (AP X pins σ Q) X.xe s
def PS (X : Cx) (st : Stmt) (t : TS) : Prop :=
  ∀ (pins : List (Addr × Obj)) (s : Shared) (σ : St) (H : Hp) (D : Ends), Inv X pins σ H s → t D σ H → wpAny (model X.prog X.w) X.A (exec st X.env) (SP X pins D) X.xe s
def PSs (X : Cx) (st : List Stmt) (t : TS) : Prop :=
  ∀ (pins : List (Addr × Obj)) (s : Shared) (σ : St) (H : Hp) (D : Ends), Inv X pins σ H s → t D σ H → wpAny (model X.prog X.w) X.A (execs st X.env) (SP X pins D) X.xe s
theorem thn {α : Type} {t : Sem α} {Q Q' : α → Shared → Prop} {M : Model} {A : Around} {E : Value → Shared → Prop} {s : Shared} (h : wpAny M A t Q E s) (hQ : ∀ a s, Q a s → Q' a s) : wpAny M A t Q' E s := wpAny_mono h hQ fun _ _ x => x
end L2
namespace L2
open PySem PySem.Spec PyProof.Rows
section
variable {X : Cx}
def tVar (i : Nat) : TE := fun σ H Q => ∃ v, σ[i]? = some (some v) ∧ Q v H
def tC (v : V) : TE := fun _ H Q => Q v H
theorem pe_var {i : Nat} {x : Str} {pos : Pos} (hN : X.N[i]? = some x) (hv : Vis X.env.scope x) (hd : (x == ("__debug__" : Str)) = false := by decide) (hcd : (x == ("__classdict__" : Str)) = false := by decide) : PE X (.Name x pos) (tVar i) := by
  intro pins s σ H Q I h
  obtain ⟨v, e, h⟩ := h
  obtain ⟨m, hn, hl⟩ := I.loc
  obtain ⟨u, r, l⟩ := hl i x v hN e hv
  have fin : EP X pins σ Q u s := ⟨v, H, I, r, h⟩
  rcases l with ⟨hk, hm⟩ | ⟨hk, c, hc, hcell⟩
  · exact wpAny_Name (wpAny_loadName_local I.ok.kind hk hn hm fin) hd
  · rcases hk with hk | hk
    · exact wpAny_Name (wpAny_loadName_cell I.ok.kind hk hc hcell fin) hd
    · exact wpAny_Name (wpAny_loadName_free I.ok.kind hk hc hcell fin hcd) hd
theorem pe_int {i j pos} : PE X (.Constant (.int i) j pos) (tC (.int i)) := fun _ _ _ H _ I h => wpAny_Constant_int ⟨.int i, H, I.tok _, ⟨_, rfl⟩, h⟩
theorem pe_bl {b j pos} : PE X (.Constant (.bool b) j pos) (tC (.bl b)) := fun _ _ _ H _ I h => Constant_bool ⟨.bl b, H, I, rfl, h⟩
theorem pe_non {j pos} : PE X (.Constant .none j pos) (tC .non) := fun _ _ _ H _ I h => Constant_none ⟨.non, H, I, rfl, h⟩
theorem pe_str {x j pos} : PE X (.Constant (.str x) j pos) (tC (.str x)) := fun _ _ _ H _ I h => Calls.Constant_str ⟨.str x, H, I.tok _, ⟨_, rfl⟩, h⟩
def Gl (X : Cx) (x : Str) : Prop := X.env.kindOf x = some .globalImplicit
theorem ld_glob {E : Value → Shared → Prop} {pins : List (Addr × Obj)} {s : Shared} {σ : St} {H : Hp} {x : Str} {u : Value} {pos : Pos} {Q : Value → Shared → Prop} (I : Inv X pins σ H s) (hg : Gl X x) (hm : X.mg x = some u) (h : Q u s)
    (hd : (x == ("__debug__" : Str)) = false := by decide) : wpAny (model X.prog X.w) X.A (eval (.Name x pos) X.env) Q E s :=
  Calls.Name_function_global I.ok.kind hg (Calls.loadGlobal_global (by rw [I.ok.glob]; exact I.mod.glob.keeps I.bk) hm h) hd
theorem ld_blt {E : Value → Shared → Prop} {pins : List (Addr × Obj)} {s : Shared} {σ : St} {H : Hp} {x : Str} {u : Value} {pos : Pos} {Q : Value → Shared → Prop} (I : Inv X pins σ H s) (hg : Gl X x) (hm : X.mg x = none) (hv : bootBuiltins x = some u) (h : Q u s)
    (hn : x ≠ "__name__" := by decide) (hd : (x == ("__debug__" : Str)) = false := by decide) : wpAny (model X.prog X.w) X.A (eval (.Name x pos) X.env) Q E s := by
  obtain ⟨mb, h1, h2⟩ := I.mod.blt
  exact Calls.Name_function_global I.ok.kind hg (Calls.loadGlobal_builtin (by rw [I.ok.glob]; exact I.mod.glob.keeps I.bk) hm (by rw [I.ok.blt]; exact h1.keeps I.bk) ((h2 x hn).trans hv) h) hd
theorem pe_glob {x : Str} {v : V} {u : Value} {pos : Pos} (hg : Gl X x) (hm : X.mg x = some u) (r : RelV v u) (hd : (x == ("__debug__" : Str)) = false := by decide) : PE X (.Name x pos) (tC v) :=
  fun _ _ _ H _ I h => ld_glob I hg hm ⟨v, H, I, r, h⟩ hd
theorem pe_bltn {x : Str} {v : V} {u : Value} {pos : Pos} (hg : Gl X x) (hm : X.mg x = none) (hv : bootBuiltins x = some u) (r : RelV v u) (hn : x ≠ "__name__" := by decide) (hd : (x == ("__debug__" : Str)) = false := by decide) : PE X (.Name x pos) (tC v) :=
  fun _ _ _ H _ I h => ld_blt I hg hm hv ⟨v, H, I, r, h⟩ hn hd
variable {a b : Expr} {ta tb : TE} {pos : Pos}
def tIsN (ta : TE) : TE := fun σ H Q => ta σ H fun x H1 => Q (.bl (decide (x = .non))) H1
def tNotN (ta : TE) : TE := fun σ H Q => ta σ H fun x H1 => Q (.bl (!decide (x = .non))) H1
def tB (t : TE) : TT := fun σ H Q => t σ H fun x H1 => ∃ c, x = .bl c ∧ Q c H1
theorem pt_val {e : Expr} {t : TE} (h : PE X e t) (he : ∀ whole, isTrue e X.env whole = (do let v ← whole; standAt e.pos; holding [v] (truthy v)) := by intro _; rfl) : PT X e (tB t) := by
  intro pins s σ H Q I hw
  refine isTrue_plain (thn (h pins s σ H _ I hw) fun v s1 ⟨x, H1, I1, r1, q1⟩ => ?_) (he _)
  obtain ⟨d, rfl, q⟩ := q1
  cases r1
  exact wpAny_truthy_bool ⟨H1, I1, q⟩
variable {tA tB' : TT} {rest : List Expr}
def tAnd (t u : TT) : TT := fun σ H Q => t σ H fun c H1 => if c = true then u σ H1 Q else Q false H1
def tOr (t u : TT) : TT := fun σ H Q => t σ H fun c H1 => if c = true then Q true H1 else u σ H1 Q
def tNot (t : TT) : TT := fun σ H Q => t σ H fun c H1 => Q (!c) H1
theorem pw_and1 (ha : PT X a tA) : PW X (.BoolOp .And [a] pos) tA := by
  intro wh pins s σ H Q I h
  refine isTrue_and (thn (ha pins s σ H Q I h) fun c s1 e => ?_)
  cases c with
  | true => exact isTrue_and_nil e
  | false => exact e
theorem pw_or1 (ha : PT X a tA) : PW X (.BoolOp .Or [a] pos) tA := by
  intro wh pins s σ H Q I h
  refine isTrue_or (thn (ha pins s σ H Q I h) fun c s1 e => ?_)
  cases c with
  | false => exact isTrue_or_nil e
  | true => exact e
theorem pw_and (ha : PT X a tA) (hb : PW X (.BoolOp .And (b :: rest) pos) tB') : PW X (.BoolOp .And (a :: b :: rest) pos) (tAnd tA tB') := by
  intro wh pins s σ H Q I h
  refine isTrue_and (thn (ha pins s σ H _ I h) fun c s1 ⟨H1, I1, q1⟩ => ?_)
  cases c with
  | true => exact hb wh pins s1 σ H1 Q I1 q1
  | false => exact ⟨H1, I1, q1⟩
theorem pw_or (ha : PT X a tA) (hb : PW X (.BoolOp .Or (b :: rest) pos) tB') : PW X (.BoolOp .Or (a :: b :: rest) pos) (tOr tA tB') := by
  intro wh pins s σ H Q I h
  refine isTrue_or (thn (ha pins s σ H _ I h) fun c s1 ⟨H1, I1, q1⟩ => ?_)
  cases c with
  | true => exact ⟨H1, I1, q1⟩
  | false => exact hb wh pins s1 σ H1 Q I1 q1
theorem pt_not (ha : PT X a tA) : PT X (.UnaryOp .Not a pos) (tNot tA) := by
  intro pins s σ H Q I h
  exact isTrue_not (ha pins s σ H (fun c H1 => Q (!c) H1) I h)
def tAndV (ta tb : TE) : TE := fun σ H Q => ta σ H fun x H1 => ∃ c, x = .bl c ∧ if c = true then tb σ H1 Q else Q (.bl false) H1
def tOrV (ta tb : TE) : TE := fun σ H Q => ta σ H fun x H1 => ∃ c, x = .bl c ∧ if c = true then Q (.bl true) H1 else tb σ H1 Q
def tNotV (ta : TE) : TE := fun σ H Q => ta σ H fun x H1 => ∃ c, x = .bl c ∧ Q (.bl (!c)) H1
theorem pe_one {op} {t : TE} (h : PE X a t) : PE X (.BoolOp op [a] pos) t := fun pins s σ H Q I hw => BoolOp_one (h pins s σ H Q I hw)
theorem pe_and (ha : PE X a ta) (hb : PE X (.BoolOp .And (b :: rest) pos) tb) : PE X (.BoolOp .And (a :: b :: rest) pos) (tAndV ta tb) := by
  intro pins s σ H Q I h
  refine BoolOp_and (thn (ha pins s σ H _ I h) fun v s1 ⟨x, H1, I1, r1, q1⟩ => ?_)
  obtain ⟨c, rfl, q1⟩ := q1
  cases r1
  refine wpAny_truthy_bool ?_
  cases c with
  | true => exact hb pins s1 σ H1 Q I1 q1
  | false => exact ⟨.bl false, H1, I1, rfl, q1⟩
theorem pe_not (ha : PE X a ta) : PE X (.UnaryOp .Not a pos) (tNotV ta) := by
  intro pins s σ H Q I h
  refine UnaryOp_ (thn (ha pins s σ H _ I h) fun v s1 ⟨x, H1, I1, r1, q1⟩ => ?_)
  obtain ⟨c, rfl, q1⟩ := q1
  cases r1
  exact not_of (wpAny_truthy_bool ⟨.bl (!c), H1, I1, rfl, q1⟩)
def tIf (t : TT) (ta tb : TE) : TE := fun σ H Q => t σ H fun c H1 => if c = true then ta σ H1 Q else tb σ H1 Q
end
end L2
namespace L2
open PySem PySem.Spec PyProof.Rows
def SqL (K : PySem.W.Frag) (H : Hp) (a : Addr) (xs : List V) : Prop :=
  Rd H a (.lst xs) ∨
    ∃ (o : Obj) (its : Array Value) (n : Nat), K.lookup a = some o ∧ o.cls = .type "list" ∧ o.dict = none ∧ o.data = .seq its n ∧ its.size ≤ sizeLine ∧ Vals xs its.toList
def SqT (K : PySem.W.Frag) (H : Hp) (a : Addr) (xs : List V) : Prop :=
  Rd H a (.tup xs) ∨
    ∃ (o : Obj) (its : Array Value) (n : Nat), K.lookup a = some o ∧ o.cls = .type "tuple" ∧ o.data = .seq its n ∧ its.size ≤ sizeLine ∧ Vals xs its.toList
def absV : Value → Option V
  | .none => some .non
  | .bool b => some (.bl b)
  | .int i _ => some (.int i)
  | .str x _ => some (.str x)
  | .bytes b _ => some (.byt b)
  | .float b _ => some (.flt b)
  | .ref a => some (.ref a)
  | .type n => some (.ty n)
  | _ => none
theorem RelV.abs {x : V} {u : Value} (r : RelV x u) : absV u = some x := by
  cases x with
  | non => cases r; rfl
  | bl _ => cases r; rfl
  | int _ => obtain ⟨t, rfl⟩ := r; rfl
  | str _ => obtain ⟨t, rfl⟩ := r; rfl
  | byt _ => obtain ⟨t, rfl⟩ := r; rfl
  | flt _ => obtain ⟨t, rfl⟩ := r; rfl
  | ref _ => cases r; rfl
  | ty _ => cases r; rfl
theorem RelV.inj {x y : V} {u : Value} (r : RelV x u) (q : RelV y u) : x = y := Option.some.inj (r.abs.symm.trans q.abs)
theorem Vals.inj : ∀ {xs ys : List V} {us : List Value}, Vals xs us → Vals ys us → xs = ys
  | _, _, _, .nil, .nil => rfl
  | _, _, _, .cons r t, .cons r' t' => by rw [r.inj r', Vals.inj t t']
section
variable {X : Cx} {pins : List (Addr × Obj)} {σ : St} {H : Hp} {s : Shared} {a : Addr} {xs ys : List V}
theorem SqL.of {K : PySem.W.Frag} (h : H a = some (.lst xs)) : SqL K H a xs := .inl (.inl h)
theorem SqT.of {K : PySem.W.Frag} (h : H a = some (.tup xs)) : SqT K H a xs := .inl (.inl h)
theorem Inv.list (I : Inv X pins σ H s) (h : SqL X.K H a xs) : ∃ its : List Value, Vals xs its ∧ PlainL s.heap a its.toArray ∧ xs.length ≤ sizeLine := by
  rcases h with h | ⟨o, its, n, hk, hc, hd, hs, hz, r⟩
  · obtain ⟨z, its, n, r, e⟩ := h.ok I.hok
    exact ⟨its, r, ⟨_, n, e, rfl, rfl, rfl⟩, z⟩
  · refine ⟨its.toList, r, ⟨o, n, I.kIn a o hk, hc, hd, by simpa using hs⟩, ?_⟩
    have e := r.length
    simp only [Array.length_toList] at e
    omega
theorem Inv.tuple (I : Inv X pins σ H s) (h : SqT X.K H a xs) : ∃ its : List Value, Vals xs its ∧ IsTup s.heap a its.toArray ∧ xs.length ≤ sizeLine := by
  rcases h with h | ⟨o, its, n, hk, hc, hs, hz, r⟩
  · obtain ⟨z, its, r, p⟩ := h.ok I.hok
    exact ⟨its, r, p, z⟩
  · refine ⟨its.toList, r, ⟨o, I.kIn a o hk, hc, n, by simpa using hs⟩, ?_⟩
    have e := r.length
    simp only [Array.length_toList] at e
    omega
theorem Inv.list_inj (I : Inv X pins σ H s) (h : SqL X.K H a xs) (h' : SqL X.K H a ys) : xs = ys := by
  obtain ⟨its, r, ⟨o, n, e, _, _, d⟩, _⟩ := I.list h
  obtain ⟨its', r', ⟨o', n', e', _, _, d'⟩, _⟩ := I.list h'
  rw [e] at e'; cases e'
  rw [d] at d'
  injection d' with d1 _
  have : its = its' := by simpa using congrArg Array.toList d1
  subst this
  exact r.inj r'
theorem Inv.tuple_inj (I : Inv X pins σ H s) (h : SqT X.K H a xs) (h' : SqT X.K H a ys) : xs = ys := by
  obtain ⟨its, r, ⟨o, e, _, n, d⟩, _⟩ := I.tuple h
  obtain ⟨its', r', ⟨o', e', _, n', d'⟩, _⟩ := I.tuple h'
  rw [e] at e'; cases e'
  rw [d] at d'
  injection d' with d1 _
  have : its = its' := by simpa using congrArg Array.toList d1
  subst this
  exact r.inj r'
end
abbrev Cx.wish (X : Cx) (E : Value → Shared → Prop) : Cx := { X with xe := E }
abbrev Cx.nox (X : Cx) : Cx := X.wish fun _ _ => False
theorem Cx.Ok.wish {X : Cx} (ok : X.Ok) (E : Value → Shared → Prop) : (X.wish E).Ok :=
  ⟨ok.mod, ok.kind, ok.glob, ok.blt, ok.above, ok.inj, ok.has, ok.cab, ok.hd, ok.frames, ok.stk, ok.exf, ok.bs, ok.bsz, ok.noex, ok.exfs, ok.funs, ok.frf⟩
theorem Cx.Ok.unwish {X : Cx} {E : Value → Shared → Prop} (ok : (X.wish E).Ok) : X.Ok :=
  ⟨ok.mod, ok.kind, ok.glob, ok.blt, ok.above, ok.inj, ok.has, ok.cab, ok.hd, ok.frames, ok.stk, ok.exf, ok.bs, ok.bsz, ok.noex, ok.exfs, ok.funs, ok.frf⟩
section
variable {X : Cx} {pins : List (Addr × Obj)} {σ : St} {H : Hp} {s : Shared} {E : Value → Shared → Prop}
theorem Inv.wish (I : Inv X pins σ H s) (E : Value → Shared → Prop) : Inv (X.wish E) pins σ H s := ⟨I.ok.wish E, I.os, I.bare, I.base, I.loc, I.cell, I.free, I.freeC, I.pin, I.hok, I.len⟩
theorem Inv.unwish (I : Inv (X.wish E) pins σ H s) : Inv X pins σ H s := ⟨I.ok.unwish, I.os, I.bare, I.base, I.loc, I.cell, I.free, I.freeC, I.pin, I.hok, I.len⟩
theorem SP.unwish {D : Ends} {f : Flow} {s' : Shared} (h : SP (X.wish E) pins D f s') : SP X pins D f s' := by
  cases f with
  | next => obtain ⟨σ', H', I, q⟩ := h; exact ⟨σ', H', I.unwish, q⟩
  | brk => obtain ⟨σ', H', I, q⟩ := h; exact ⟨σ', H', I.unwish, q⟩
  | cont => obtain ⟨σ', H', I, q⟩ := h; exact ⟨σ', H', I.unwish, q⟩
  | ret u => obtain ⟨v, σ', H', I, r, q⟩ := h; exact ⟨v, σ', H', I.unwish, r, q⟩
theorem PSs.nox {st : List Stmt} {t : TS} (h : PSs X.nox st t) : PSs X st t := fun pins s σ H D I hw =>
  wpAny_mono (h pins s σ H D (I.wish _) hw) (fun _ _ q => q.unwish) fun _ _ z => False.elim z
end
section
variable {X : Cx} {st : Stmt} {rest : List Stmt} {t u : TS} {e : Expr} {te : TE} {pos : Pos}
def tNext : TS := fun D σ H => D.nx σ H
def tSeq (t u : TS) : TS := fun D σ H => t { D with nx := u D } σ H
theorem pss_nil : PSs X [] tNext := fun _ _ σ H _ I h => wpAny_execs_nil ⟨σ, H, I, h⟩
theorem pss_cons (h1 : PS X st t) (h2 : PSs X rest u) : PSs X (st :: rest) (tSeq t u) := by
  intro pins s σ H D I h
  refine wpAny_execs_cons (thn (h1 pins s σ H { D with nx := u D } I h) fun f s1 q => ?_)
  cases f with
  | next =>
    obtain ⟨σ', H', I', q⟩ := q
    exact h2 pins s1 σ' H' D I' q
  | ret v => exact q
  | brk => exact q
  | cont => exact q
theorem pss_one (h1 : PS X st t) : PSs X [st] t := by
  intro pins s σ H D I h
  refine wpAny_execs_cons (thn (h1 pins s σ H D I h) fun f s1 q => ?_)
  cases f with
  | next => exact wpAny_execs_nil q
  | ret v => exact q
  | brk => exact q
  | cont => exact q
def tBreak : TS := fun D σ H => D.bk σ H
def tCont : TS := fun D σ H => D.ct σ H
theorem Inv.quiet {pins : List (Addr × Obj)} {σ : St} {H : Hp} {s : Shared} (I : Inv X pins σ H s) : interactive X.env = false := by simp [interactive, I.ok.kind]
def tDrop (te : TE) : TS := fun D σ H => te σ H fun _ H1 => D.nx σ H1
theorem ps_expr (he : PE X e te) (hs : swapsWith e none pos.line X.env = pure false := by rfl) : PS X (.Expr e pos) (tDrop te) := by
  intro pins s σ H D I h
  exact wpAny_Expr_any (thn (he pins s σ H _ I h) fun v s1 ⟨x, H1, I1, r1, q1⟩ => ⟨σ, H1, I1, q1⟩) I.quiet hs
def tRet (te : TE) : TS := fun D σ H => te σ H D.rt
theorem ps_ret (he : PE X e te) : PS X (.Return (some e) pos) (tRet te) := by
  intro pins s σ H D I h
  exact wpAny_Return_some (thn (he pins s σ H _ I h) fun v s1 ⟨x, H1, I1, r1, q1⟩ => ⟨x, σ, H1, I1, r1, q1⟩)
def tRetN : TS := fun D _ H => D.rt .non H
def tIfS (c : TT) (t u : TS) : TS := fun D σ H => c σ H fun b H1 => if b = true then t D σ H1 else u D σ H1
theorem ps_if {c : Expr} {a b : List Stmt} {tc : TT} (hc : PT X c tc) (ha : PSs X a t) (hb : PSs X b u) : PS X (.If c a b pos) (tIfS tc t u) := by
  intro pins s σ H D I h
  refine wpAny_If (thn (hc pins s σ H _ I h) fun d s1 ⟨H1, I1, q1⟩ => ?_)
  cases d with
  | true => exact ha pins s1 σ H1 D I1 q1
  | false => exact hb pins s1 σ H1 D I1 q1
end
abbrev TG := V → St → Hp → (St → Hp → Prop) → Prop
abbrev TGs := List V → St → Hp → (St → Hp → Prop) → Prop
def PG (X : Cx) (target : Expr) (t : TG) : Prop :=
  ∀ (pins : List (Addr × Obj)) (s : Shared) (σ : St) (H : Hp) (v : V) (u : Value) (Q : St → Hp → Prop), Inv X pins σ H s → RelV v u → t v σ H Q →
    wpAny (model X.prog X.w) X.A (assign target X.env u) (fun _ s' => ∃ σ' H', Inv X pins σ' H' s' ∧ Q σ' H') X.xe s
def PGs (X : Cx) (ts : List Expr) (t : TGs) : Prop :=
  ∀ (pins : List (Addr × Obj)) (s : Shared) (σ : St) (H : Hp) (vs : List V) (us : List Value) (Q : St → Hp → Prop), Inv X pins σ H s → Vals vs us → t vs σ H Q →
    wpAny (model X.prog X.w) X.A (assignInOrder ((assignEach ts X.env).map (·.2)) us) (fun _ s' => ∃ σ' H', Inv X pins σ' H' s' ∧ Q σ' H') X.xe s
abbrev TSet := V → V → V → Hp → (Hp → Prop) → Prop
abbrev TIp := V → V → Hp → VK → Prop
section
variable {X : Cx} {pos : Pos}
def gName (i : Nat) : TG := fun v σ H Q => Q (σ.set i (some v)) H
theorem pg_name {i : Nat} {x : Str} (hN : X.N.Nodup) (hi : X.N[i]? = some x) (hx : Loc X.env.scope x) (hf : X.fn x = true ∨ X.env.scope.names.lookup x = some .local := by first | exact .inl rfl | exact .inr rfl | assumption) : PG X (.Name x pos) (gName i) := by
  intro pins s σ H v u Q I r h
  exact wpAny_assign_Name (store_ok I hN hi hx r (fun s' I' => ⟨_, H, I', h⟩) hf)
def gNil : TGs := fun vs σ H Q => vs = [] ∧ Q σ H
def gCons (t : TG) (u : TGs) : TGs := fun vs σ H Q => ∃ v r, vs = v :: r ∧ t v σ H fun σ' H' => u r σ' H' Q
theorem pgs_nil : PGs X [] gNil := by
  intro pins s σ H vs us Q I r h
  obtain ⟨e, h⟩ := h
  subst e
  cases r
  exact assignInOrder_nil ⟨σ, H, I, h⟩
theorem pgs_cons {e : Expr} {es : List Expr} {t : TG} {u : TGs} (h1 : PG X e t) (h2 : PGs X es u)
    (hs : (assignEach (e :: es) X.env).map (·.2) = assign e X.env :: (assignEach es X.env).map (·.2) := by rfl) : PGs X (e :: es) (gCons t u) := by
  intro pins s σ H vs us Q I r h
  obtain ⟨v, vr, e1, h⟩ := h
  subst e1
  cases r with
  | cons r rr =>
    rw [hs]
    refine assignInOrder_cons (thn (h1 pins s σ H _ _ _ I r h) fun _ s1 ⟨σ1, H1, I1, q1⟩ => ?_)
    exact h2 pins s1 σ1 H1 _ _ Q I1 rr q1
def gTup (K : PySem.W.Frag) (n : Nat) (t : TGs) : TG := fun v σ H Q => ∃ a xs, v = .ref a ∧ SqT K H a xs ∧ xs.length = n ∧ t xs σ H Q
theorem pg_tup {es : List Expr} {k : Nat} {t : TGs} {n : Nat} (hc : X.calm = true) (h : PGs X es t)
    (hn : (assignEach es X.env).length = n := by rfl) (hst : (assignEach es X.env).findIdx? (·.1) = none := by rfl) : PG X (.Tuple es k pos) (gTup X.K n t) := by
  intro pins s σ H v u Q I r hw
  obtain ⟨a, xs, e1, hq, hl, hw⟩ := hw
  subst e1
  cases r
  obtain ⟨its, rv, ht, hz⟩ := I.tuple hq
  refine assign_Tuple_tuple (I.ok.hd hc) ht (by simp [hn, ← hl, rv.length]) hst fun h' hx => ?_
  have I1 : Inv X pins σ H { s with heap := h' } := I.kept (t' := s.toks) fun b o e => hx b o (Nat.ne_of_lt (Heap.lt_size e)) e
  exact h pins _ σ H xs _ Q I1 (by simpa using rv) hw
def gSub (to ti : TE) (t : TSet) : TG := fun v σ H Q => to σ H fun o H1 => ti σ H1 fun i H2 => t o i v H2 fun H3 => Q σ H3
def tAsg (te : TE) (g : TG) : TS := fun D σ H => te σ H fun x H1 => g x σ H1 D.nx
theorem ps_asg {tg e : Expr} {te : TE} {g : TG} (he : PE X e te) (hg : PG X tg g) (hs : swapsWithSole [tg] e pos.line X.env = pure false := by rfl) (hw : swappedStores [tg] e X.env = pure none := by rfl)
    (h1 : (assignEach [tg] X.env).map (·.2) = [assign tg X.env] := by rfl) : PS X (.Assign [tg] e pos) (tAsg te g) := by
  intro pins s σ H D I h
  refine wpAny_Assign_stores (thn (he pins s σ H _ I h) fun v s1 ⟨x, H1, I1, r1, q1⟩ => ?_) hs hw
  rw [h1]
  exact thn (hg pins s1 σ H1 x v _ I1 r1 q1) fun _ s2 q => q
theorem ps_set {i : Nat} {x : Str} {e : Expr} {te : TE} {pos' : Pos} (hN : X.N.Nodup) (hi : X.N[i]? = some x) (hx : Loc X.env.scope x) (he : PE X e te) (hs : swapsWith e (some (.Name x pos')) pos.line X.env = pure false := by rfl) (hf : X.fn x = true ∨ X.env.scope.names.lookup x = some .local := by first | exact .inl rfl | exact .inr rfl | assumption) :
    PS X (.Assign [.Name x pos'] e pos) (tAsg te (gName i)) := by
  intro pins s σ H D I h
  refine wpAny_Assign_Name (thn (he pins s σ H _ I h) fun v s1 ⟨y, H1, I1, r1, q1⟩ => ?_) hs
  exact store_ok I1 hN hi hx r1 (fun s2 I2 => ⟨_, H1, I2, q1⟩) hf
def tAug (i : Nat) (te : TE) (ti : TIp) : TS := fun D σ H => ∃ x, σ[i]? = some (some x) ∧ te σ H fun y H1 => ti x y H1 fun z H2 => D.nx (σ.set i (some z)) H2
def ipI (f : Int → Int → Int) : TIp := fun x y H Q => ∃ i j, x = .int i ∧ y = .int j ∧ Q (.int (f i j)) H
end
section
variable {X : Cx} {pos : Pos}
end
structure It where
  go : Nat → Hp → Prop
  yld : Nat → Hp → V → Hp → Prop
  stop : Nat → Hp → Prop
def FpOk (X : Cx) (pins : List (Addr × Obj)) (H : Hp) (b : Addr) : Prop :=
  H b = none ∧ b ≠ X.env.locals ∧ b ∉ X.fs ∧ (b ∈ X.ex ∨ X.s₀.heap.objs.size ≤ b) ∧ (∀ x c, X.env.cells.lookup x = some c → c ≠ b) ∧ ∀ p ∈ X.pn ++ pins, p.1 ≠ b
theorem Inv.fpOk {X : Cx} {pins : List (Addr × Obj)} {σ : St} {H H' : Hp} {s : Shared} {b : Addr} (I : Inv X pins σ H s) (hb : s.heap.objs.size ≤ b) (hn : H' b = none) : FpOk X pins H' b := by
  refine ⟨hn, Nat.ne_of_gt (Nat.lt_of_lt_of_le I.lt hb), I.nofs hb, .inr (Nat.le_trans I.sz hb), fun x c e z => ?_, fun p hp z => ?_⟩
  · obtain ⟨v, q⟩ := I.cell x c e
    exact absurd (Nat.lt_of_lt_of_le q.lt (by rw [z]; exact hb)) (Nat.lt_irrefl _)
  · exact absurd (Nat.lt_of_lt_of_le (Heap.lt_size (I.pin p hp).1) (by rw [z]; exact hb)) (Nat.lt_irrefl _)
structure Turn (P : Program) (w : World) (K : PySem.W.Frag) (tg : Expr) (J : It) (fp : List Addr) (it : Addr) (tn : Nat → Heap → Prop) : Prop where
  mem : it ∈ fp
  obj : ∀ i h, tn i h → ∀ b ∈ fp, ∃ o, h.get? b = some o ∧ ∀ v, o.data ≠ .cell v
  keep : ∀ i h h', tn i h → (∀ b ∈ fp, ∀ o, h.get? b = some o → h'.get? b = some o) → tn i h'
  item : ∀ (X : Cx), X.prog = P → X.w = w → X.K = K → X.calm = true → ∀ (i : Nat) (pins : List (Addr × Obj)) (s : Shared) (σ : St) (H : Hp) (E : Value → Shared → Prop), Inv X pins σ H s → (∀ b ∈ fp, FpOk X pins H b) → tn i s.heap → J.go i H →
    wpAny (model P w) X.A (pyNext (.ref it)) (fun r s1 => ∃ u, r = some u ∧
      wpAny (model P w) X.A (letOwnedTupleGo tg (.ref it) u) (fun _ s2 => ∃ x H', Inv X pins σ H' s2 ∧ RelV x u ∧ J.yld i H x H' ∧ tn (i + 1) s2.heap ∧ ∀ b ∈ fp, H' b = none) E s1) E s
  done : ∀ (X : Cx), X.prog = P → X.w = w → X.K = K → X.calm = true → ∀ (i : Nat) (pins : List (Addr × Obj)) (s : Shared) (σ : St) (H : Hp) (E : Value → Shared → Prop), Inv X pins σ H s → (∀ b ∈ fp, FpOk X pins H b) → tn i s.heap → J.stop i H →
    wpAny (model P w) X.A (pyNext (.ref it)) (fun r s1 => r = none ∧ Inv X pins σ H s1) E s
  self : ∀ (A : Around) (i : Nat) (s : Shared) (Q : Value → Shared → Prop) (E : Value → Shared → Prop), tn i s.heap → Q (.ref it) s → wpAny (model P w) A (pyIter (.ref it)) Q E s
abbrev TI := St → Hp → (It → Hp → Prop) → Prop
def PIE (X : Cx) (pins : List (Addr × Obj)) (σ : St) (tg : Expr) (R : It → Hp → Prop) (itv : Value) (s2 : Shared) : Prop :=
  ∃ (it : Addr) (fp : List Addr) (tn : Nat → Heap → Prop) (J : It) (H' : Hp), itv = .ref it ∧ Inv X pins σ H' s2 ∧ Turn X.prog X.w X.K tg J fp it tn ∧ tn 0 s2.heap ∧ (∀ b ∈ fp, FpOk X pins H' b) ∧ R J H'
def PI (X : Cx) (tg iter : Expr) (wi : TI) : Prop :=
  ∀ (pins : List (Addr × Obj)) (s : Shared) (σ : St) (H : Hp) (R : It → Hp → Prop), Inv X pins σ H s → wi σ H R →
    wpAny (model X.prog X.w) X.A (eval iter X.env) (fun v s1 => wpAny (model X.prog X.w) X.A (pyIter v) (PIE X pins σ tg R) X.xe s1) X.xe s
theorem go_of {M : Model} {A : Around} {E : Value → Shared → Prop} {s : Shared} {tg : Expr} {it : Addr} {u : Value} {o : Obj} {n : String} {vs : Array Value} {Q : Unit → Shared → Prop} (ho : s.heap.get? it = some o) (hc : o.cls = .type n) (hd : o.data = .fields vs)
    (hn : ["enumerate", "zip", "dict_itemiterator", "dict_reverseitemiterator", "odict_iterator", "itertools.zip_longest", "itertools.pairwise"].contains n = false) (hQ : Q () s) : wpAny M A (letOwnedTupleGo tg (.ref it) u) Q E s := by
  unfold letOwnedTupleGo
  cases tg <;> first
    | exact wpAny_pure hQ
    | (cases u <;> first
        | exact wpAny_pure hQ
        | (refine wpAny_bind (wpAny_load ho ?_)
           rw [hc, hd]
           show wpAny M A (if (["enumerate", "zip", "dict_itemiterator", "dict_reverseitemiterator", "odict_iterator", "itertools.zip_longest", "itertools.pairwise"].contains n && vs[0]? == some (rawInt _)) = true then _ else _) Q E s
           rw [if_neg (by intro h; rw [hn, Bool.false_and] at h; cases h)]
           exact wpAny_pure hQ))
def Itl (K : PySem.W.Frag) (a : Addr) : It :=
  ⟨fun i H => ∃ xs x, SqL K H a xs ∧ xs[i]? = some x, fun i H x H' => H' = H ∧ ∀ xs, SqL K H a xs → xs[i]? = some x, fun i H => ∃ xs, SqL K H a xs ∧ xs.length ≤ i⟩
def Itt (K : PySem.W.Frag) (a : Addr) : It :=
  ⟨fun i H => ∃ xs x, SqT K H a xs ∧ xs[i]? = some x, fun i H x H' => H' = H ∧ ∀ xs, SqT K H a xs → xs[i]? = some x, fun i H => ∃ xs, SqT K H a xs ∧ xs.length ≤ i⟩
def Itr (lo : Int) (n : Nat) : It := ⟨fun i _ => i < n, fun i H x H' => H' = H ∧ x = .int (lo + i), fun i _ => n ≤ i⟩
theorem turn_list {P : Program} {w : World} {K : PySem.W.Frag} {tg : Expr} (a it : Addr) : Turn P w K tg (Itl K a) [it] it (fun i h => h.IsListIter it a i) where
  mem := by simp
  obj := fun i h st b hb => by
    have e : b = it := by simpa using hb
    subst e
    obtain ⟨o, e, c, d⟩ := st
    exact ⟨o, e, fun v z => by rw [d] at z; cases z⟩
  keep := fun i h h' st k => st.at fun o e => k it (by simp) o e
  item := by
    intro X hP hw hK hc i pins s σ H E I hf st hg
    subst hP hw hK
    obtain ⟨xs, x, hq, hx⟩ := hg
    obtain ⟨its, rv, p, hz⟩ := I.list hq
    obtain ⟨u, hu, ru⟩ := rv.get hx
    obtain ⟨f0, f1, f2, f3, f4, f5⟩ := hf it (by simp)
    refine wpAny_pyNext_list_item st p.isList (x := u) (by simpa using hu) fun h' st' sb => ?_
    have I1 : Inv X pins σ H { s with heap := h' } := I.turned (t' := s.toks) (fun b o hb e => (sb.2 b hb).trans e) f0 f1 f3 f4 f5
    obtain ⟨o, e, c, d⟩ := id st'
    exact ⟨u, rfl, go_of (s := { s with heap := h' }) e c d (by decide) ⟨x, H, I1, ru, ⟨rfl, fun ys hy => by rw [I.list_inj hy hq]; exact hx⟩, st', fun b hb => (hf b hb).1⟩⟩
  done := by
    intro X hP hw hK hc i pins s σ H E I hf st hg
    subst hP hw hK
    obtain ⟨xs, hq, hx⟩ := hg
    obtain ⟨its, rv, p, hz⟩ := I.list hq
    obtain ⟨f0, f1, f2, f3, f4, f5⟩ := hf it (by simp)
    have hl := rv.length
    exact wpAny_pyNext_list_end (I.ok.hd hc) st p.isList (by simp; omega) fun h' eb => ⟨rfl, I.turned (t' := s.toks) (fun b o hb e => eb b o hb e) f0 f1 f3 f4 f5⟩
  self := fun _ _ _ _ _ st h => wpAny_pyIter_listiter st h
theorem turn_tuple {P : Program} {w : World} {K : PySem.W.Frag} {tg : Expr} (a it : Addr) : Turn P w K tg (Itt K a) [it] it (fun i h => h.IsTupleIter it a i) where
  mem := by simp
  obj := fun i h st b hb => by
    have e : b = it := by simpa using hb
    subst e
    obtain ⟨o, e, c, d⟩ := st
    exact ⟨o, e, fun v z => by rw [d] at z; cases z⟩
  keep := fun i h h' st k => st.at fun o e => k it (by simp) o e
  item := by
    intro X hP hw hK hc i pins s σ H E I hf st hg
    subst hP hw hK
    obtain ⟨xs, x, hq, hx⟩ := hg
    obtain ⟨its, rv, p, hz⟩ := I.tuple hq
    obtain ⟨u, hu, ru⟩ := rv.get hx
    obtain ⟨f0, f1, f2, f3, f4, f5⟩ := hf it (by simp)
    refine wpAny_pyNext_tuple_item st (show s.heap.IsTuple a its.toArray from p) (x := u) (by simpa using hu) fun h' st' sb => ?_
    have I1 : Inv X pins σ H { s with heap := h' } := I.turned (t' := s.toks) (fun b o hb e => (sb.2 b hb).trans e) f0 f1 f3 f4 f5
    obtain ⟨o, e, c, d⟩ := id st'
    exact ⟨u, rfl, go_of (s := { s with heap := h' }) e c d (by decide) ⟨x, H, I1, ru, ⟨rfl, fun ys hy => by rw [I.tuple_inj hy hq]; exact hx⟩, st', fun b hb => (hf b hb).1⟩⟩
  done := by
    intro X hP hw hK hc i pins s σ H E I hf st hg
    subst hP hw hK
    obtain ⟨xs, hq, hx⟩ := hg
    obtain ⟨its, rv, p, hz⟩ := I.tuple hq
    obtain ⟨f0, f1, f2, f3, f4, f5⟩ := hf it (by simp)
    have hl := rv.length
    exact wpAny_pyNext_tuple_end (I.ok.hd hc) st (show s.heap.IsTuple a its.toArray from p) (by simp; omega) fun h' eb => ⟨rfl, I.turned (t' := s.toks) (fun b o hb e => eb b o hb e) f0 f1 f3 f4 f5⟩
  self := fun _ _ _ _ _ st h => wpAny_pyIter_tupleiter st h
theorem turn_range {P : Program} {w : World} {K : PySem.W.Frag} {tg : Expr} (it : Addr) (lo : Int) (n : Nat) : Turn P w K tg (Itr lo n) [it] it (fun i h => IsRangeIter h it (lo + (i : Nat) * 1) ((n : Int) - (i : Nat)) 1) where
  mem := by simp
  obj := fun i h st b hb => by
    have e : b = it := by simpa using hb
    subst e
    exact ⟨_, st, fun v z => by
      have z' : Data.fields _ = Data.cell v := z
      cases z'⟩
  keep := fun i h h' st k => k it (by simp) _ st
  item := by
    intro X hP hw hK hc i pins s σ H E I hf st hg
    subst hP hw hK
    obtain ⟨f0, f1, f2, f3, f4, f5⟩ := hf it (by simp)
    have W := Walks.range (prog := X.prog) (w := X.w) (I.ok.hd hc) it lo 1 n
    refine W.item i s _ _ hg st fun v h' tk hv st' kk => ?_
    obtain ⟨t, rfl⟩ := hv
    have I1 : Inv X pins σ H { s with heap := h', toks := tk } := I.turned (fun b o hb e => kk b o (by simpa using hb) e) f0 f1 f3 f4 f5
    refine ⟨_, rfl, go_of (s := { s with heap := h', toks := tk }) (n := "range_iterator") st' rfl rfl (by decide) ⟨.int (lo + i), H, I1, ⟨t, ?_⟩, ⟨rfl, rfl⟩, st', fun b hb => (hf b hb).1⟩⟩
    rw [Int.mul_one]
  done := by
    intro X hP hw hK hc i pins s σ H E I hf st hg
    subst hP hw hK
    obtain ⟨f0, f1, f2, f3, f4, f5⟩ := hf it (by simp)
    exact wpAny_pyNext_range_end (I.ok.hd hc) st (by have : n ≤ i := hg; omega) fun h' eb => ⟨rfl, I.turned (t' := s.toks) (fun b o hb e => eb b o hb e) f0 f1 f3 f4 f5⟩
  self := fun _ _ _ _ _ st h => wpAny_pyIter_rangeiter st h
end L2
namespace L2
open PySem PySem.Spec PyProof.Rows
section
variable {X : Cx} {tg : Expr}
def iList (K : PySem.W.Frag) (tl : TE) : TI := fun σ H R => tl σ H fun x H1 => ∃ a, x = .ref a ∧ (∃ xs, SqL K H1 a xs) ∧ R (Itl K a) H1
def iTup (K : PySem.W.Frag) (tl : TE) : TI := fun σ H R => tl σ H fun x H1 => ∃ a, x = .ref a ∧ (∃ xs, SqT K H1 a xs) ∧ R (Itt K a) H1
theorem pi_list {l : Expr} {tl : TE} (hl : PE X l tl) : PI X tg l (iList X.K tl) := by
  intro pins s σ H R I h
  refine thn (hl pins s σ H _ I h) fun v s1 ⟨x, H1, I1, r1, q1⟩ => ?_
  obtain ⟨a, e, ⟨xs, hq⟩, q⟩ := q1
  subst e
  cases r1
  obtain ⟨its, rv, p, hz⟩ := I1.list hq
  refine wpAny_pyIter_list p.isList ?_
  refine ⟨s1.heap.objs.size, [s1.heap.objs.size], _, _, H1, rfl, I1.kept (t' := s1.toks) fun b o e => Heap.get?_push_of_some _ e, turn_list a _, ⟨_, Heap.get?_push_size _ rfl, rfl, rfl⟩, fun b hb => ?_, q⟩
  have e : b = s1.heap.objs.size := by simpa using hb
  subst e
  exact I1.fpOk (Nat.le_refl _) (I1.hok.fresh (Nat.le_refl _))
theorem pi_tup {l : Expr} {tl : TE} (hl : PE X l tl) : PI X tg l (iTup X.K tl) := by
  intro pins s σ H R I h
  refine thn (hl pins s σ H _ I h) fun v s1 ⟨x, H1, I1, r1, q1⟩ => ?_
  obtain ⟨a, e, ⟨xs, hq⟩, q⟩ := q1
  subst e
  cases r1
  obtain ⟨its, rv, p, hz⟩ := I1.tuple hq
  refine wpAny_pyIter_tuple (show s1.heap.IsTuple a its.toArray from p) ?_
  refine ⟨s1.heap.objs.size, [s1.heap.objs.size], _, _, H1, rfl, I1.kept (t' := s1.toks) fun b o e => Heap.get?_push_of_some _ e, turn_tuple a _, ⟨_, Heap.get?_push_size _ rfl, rfl, rfl⟩, fun b hb => ?_, q⟩
  have e : b = s1.heap.objs.size := by simpa using hb
  subst e
  exact I1.fpOk (Nat.le_refl _) (I1.hok.fresh (Nat.le_refl _))
theorem range_it {pins : List (Addr × Obj)} {σ : St} {H : Hp} {s : Shared} {R : It → Hp → Prop} {E : Value → Shared → Prop} {lo hi : Int} {t u v : Tok} {tk : Nat} (I : Inv X pins σ H s) (h1 : -(2 ^ 62) ≤ lo) (h2 : lo < 2 ^ 62) (h3 : -(2 ^ 62) ≤ hi) (h4 : hi < 2 ^ 62)
    (q : R (Itr lo (hi - lo).toNat) H) : wpAny (model X.prog X.w) X.A (pyIter (.ref s.heap.objs.size)) (PIE X pins σ tg R) E { s with heap := s.heap.push { cls := .type "range", data := .fields #[.int lo t, .int hi u, .int 1 v] }, toks := tk } := by
  refine wpAny_pyIter_range (IsRange.new ..) (small_one h1 h2 h3 h4) ?_
  have I1 : Inv X pins σ H { s with heap := s.heap.push { cls := .type "range", data := .fields #[.int lo t, .int hi u, .int 1 v] }, toks := tk } := I.kept fun b o e => Heap.get?_push_of_some _ e
  refine ⟨(s.heap.push { cls := .type "range", data := .fields #[.int lo t, .int hi u, .int 1 v] }).objs.size, [(s.heap.push { cls := .type "range", data := .fields #[.int lo t, .int hi u, .int 1 v] }).objs.size], _, _, H, rfl,
    I1.kept (t' := tk) fun b o e => Heap.get?_push_of_some _ e, turn_range _ lo (hi - lo).toNat, ?_, fun b hb => ?_, q⟩
  · have e1 : lo + ((0 : Nat) : Int) * 1 = lo := by simp
    have e2 : (((hi - lo).toNat : Nat) : Int) - ((0 : Nat) : Int) = Builtin.Range.rangeSize lo hi 1 := by rw [rangeSize_one]; split <;> omega
    show IsRangeIter _ _ (lo + ((0 : Nat) : Int) * 1) ((((hi - lo).toNat : Nat) : Int) - ((0 : Nat) : Int)) 1
    rw [e1, e2]
    exact Heap.get?_push_size _ rfl
  · have e : b = (s.heap.push { cls := .type "range", data := .fields #[.int lo t, .int hi u, .int 1 v] }).objs.size := by simpa using hb
    subst e
    exact I1.fpOk (Nat.le_refl _) (I1.hok.fresh (Nat.le_refl _))
def iRng1 (ta : TA) : TI := fun σ H R => ta σ H fun vs H1 => ∃ j : Int, vs = [.int j] ∧ -(2 ^ 62) ≤ j ∧ j < 2 ^ 62 ∧ R (Itr 0 j.toNat) H1
def iRng2 (ta : TA) : TI := fun σ H R => ta σ H fun vs H1 => ∃ i j : Int, vs = [.int i, .int j] ∧ (-(2 ^ 62) ≤ i ∧ i < 2 ^ 62 ∧ -(2 ^ 62) ≤ j ∧ j < 2 ^ 62) ∧ R (Itr i (j - i).toNat) H1
theorem pi_range1 {a : Expr} {ta : TA} {p pos : Pos} (hg : Gl X "range") (hm : X.mg "range" = none) (ha : PA X [a] ta) (hs : starEach [a] X.env = [(false, eval a X.env)] := by rfl) : PI X tg (.Call (.Name "range" p) [a] [] pos) (iRng1 ta) := by
  intro pins s σ H R I h
  refine Call_ (ld_blt I hg hm boot_range (PyProof.Rows.callWith_type1 (thn (ha pos pins s σ H _ I h) fun us s1 ⟨vs, H1, I1, r1, q1⟩ => ?_) hs rfl))
  obtain ⟨j, e, q1, q2, q⟩ := q1
  subst e
  cases r1 with
  | cons r rr =>
    cases rr
    obtain ⟨t, rfl⟩ := r
    exact call_range_1 (range_it I1 (by omega) (by omega) q1 q2 (by simpa using q))
theorem pi_range2 {a b : Expr} {ta : TA} {p pos : Pos} (hg : Gl X "range") (hm : X.mg "range" = none) (ha : PA X [a, b] ta) (hs : starEach [a, b] X.env = [(false, eval a X.env), (false, eval b X.env)] := by rfl) (hs2 : starEach [b] X.env = [(false, eval b X.env)] := by rfl) :
    PI X tg (.Call (.Name "range" p) [a, b] [] pos) (iRng2 ta) := by
  intro pins s σ H R I h
  refine Call_ (ld_blt I hg hm boot_range (PyProof.Rows.callWith_type1 (thn (ha pos pins s σ H _ I h) fun us s1 ⟨vs, H1, I1, r1, q1⟩ => ?_) (by rw [hs, hs2]) (by rw [hs2]; rfl)))
  obtain ⟨i, j, e, ⟨q1, q2, q3, q4⟩, q⟩ := q1
  subst e
  cases r1 with
  | cons r rr =>
    cases rr with
    | cons r' rr =>
      cases rr
      obtain ⟨t, rfl⟩ := r
      obtain ⟨t', rfl⟩ := r'
      exact call_range_2 (range_it I1 q1 q2 q3 q4 q)
def tFor (wi : TI) (g : TG) (tb : TS) : TS := fun D σ H => wi σ H fun J H1 => ∃ W : Nat → Nat → St → Hp → Prop, (∃ m, W 0 m σ H1) ∧ ∀ i m σ H, W i m σ H →
  (J.stop i H ∧ D.nx σ H) ∨ (J.go i H ∧ ∃ N : St → Hp → Prop, (∀ σ' H', N σ' H' → ∃ m', m' < m ∧ W (i + 1) m' σ' H') ∧ ∀ x H', J.yld i H x H' → g x σ H' fun σ2 H2 => tb { D with nx := N, ct := N, bk := D.nx } σ2 H2)
def pinsAt (fp : List Addr) (h : Heap) : List (Addr × Obj) := fp.filterMap fun b => (h.get? b).map fun o => (b, o)
theorem mem_pinsAt {fp : List Addr} {h : Heap} {b : Addr} {o : Obj} (hb : b ∈ fp) (e : h.get? b = some o) : (b, o) ∈ pinsAt fp h := List.mem_filterMap.mpr ⟨b, hb, by rw [e]; rfl⟩
theorem of_pinsAt {fp : List Addr} {h : Heap} {p : Addr × Obj} (hp : p ∈ pinsAt fp h) : p.1 ∈ fp ∧ h.get? p.1 = some p.2 := by
  obtain ⟨b, hb, e⟩ := List.mem_filterMap.mp hp
  cases q : h.get? b with
  | none => rw [q] at e; cases e
  | some o =>
    rw [q] at e
    have e' : (b, o) = p := Option.some.inj e
    subst e'
    exact ⟨hb, q⟩
theorem Inv.pinned {pins : List (Addr × Obj)} {σ : St} {H : Hp} {s : Shared} {fp : List Addr} (I : Inv X pins σ H s) (hf : ∀ b ∈ fp, FpOk X pins H b) (ho : ∀ b ∈ fp, ∃ o, s.heap.get? b = some o ∧ ∀ v, o.data ≠ .cell v) : Inv X (pins ++ pinsAt fp s.heap) σ H s :=
  I.pins_of fun p hp => (List.mem_append.mp hp).elim (fun z => I.pin p (List.mem_append_right _ z)) fun z => by
    obtain ⟨hb, e⟩ := of_pinsAt z
    obtain ⟨f0, f1, f2, _⟩ := hf p.1 hb
    obtain ⟨o, e', d⟩ := ho p.1 hb
    rw [e] at e'; cases e'
    exact ⟨e, f0, f1, f2, d⟩
theorem Inv.unpinned {pins pl : List (Addr × Obj)} {σ : St} {H : Hp} {s : Shared} (I : Inv X (pins ++ pl) σ H s) : Inv X pins σ H s := I.pins_of fun p hp => I.pin p (List.mem_append_right _ (List.mem_append_left _ hp))
theorem ps_for {iter : Expr} {body : List Stmt} {wi : TI} {g : TG} {tb : TS} {pos : Pos} (hp : PassesOwn (model X.prog X.w) X.A X.env X.xe) (hc : X.calm = true) (hi : PI X tg iter wi) (hg : PG X tg g) (hb : PSs X body tb)
    (hs : ∀ x, foldedSetIterable iter X.env x = pure x := by intro _; rfl) : PS X (.For tg iter body [] pos) (tFor wi g tb) := by
  intro pins s σ H D I h
  refine wpAny_For (thn (hi pins s σ H _ I h) fun v s1 h1 => thn h1 fun itv s2 h2 => ?_) hs
  obtain ⟨it, fp, tn, J, H2, e, I2, T, st2, f2, W, ⟨m0, w0⟩, turn⟩ := h2
  subst e
  -- what stays true of the iterator's objects through the loop
  have stat : ∀ {H' : Hp}, (∀ b ∈ fp, H' b = none) → ∀ b ∈ fp, FpOk X pins H' b := fun hn b hb => ⟨hn b hb, (f2 b hb).2⟩
  refine codeAny_forLoop_any (fun n s' => ∃ i σ' H', Inv X pins σ' H' s' ∧ tn i s'.heap ∧ (∀ b ∈ fp, H' b = none) ∧ W i n σ' H') ?_ m0 ⟨0, σ, H2, I2, st2, fun b hb => (f2 b hb).1, w0⟩
  rintro n s3 ⟨i, σ3, H3, I3, st3, fr3, w3⟩
  rcases turn i n σ3 H3 w3 with ⟨stop, qn⟩ | ⟨go, N, hN, step⟩
  · refine wpAny_passesOwn hp (thn (T.done X rfl rfl rfl hc i pins s3 σ3 H3 X.xe I3 (stat fr3) st3 stop) fun r s4 ⟨hr, I4⟩ => ?_)
    subst hr
    exact wpAny_execs_nil ⟨σ3, H3, I4, qn⟩
  · refine wpAny_passesOwn hp (thn (T.item X rfl rfl rfl hc i pins s3 σ3 H3 X.xe I3 (stat fr3) st3 go) fun r s4 ⟨u, hr, h4⟩ => ?_)
    subst hr
    refine wpAny_passesOwn hp (thn h4 fun _ s5 ⟨x, H5, I5, r5, y5, st5, fr5⟩ => ?_)
    have I5' := I5.pinned (stat fr5) (T.obj _ _ st5)
    refine wpAny_passesOwn hp (thn (hg _ s5 σ3 H5 x u _ I5' r5 (step x H5 y5)) fun _ s6 ⟨σ6, H6, I6, q6⟩ => ?_)
    refine wpAny_passesOwn hp (thn (hb _ s6 σ6 H6 _ I6 q6) fun f s7 q7 => ?_)
    have again : ∀ {σ7 : St} {H7 : Hp}, Inv X (pins ++ pinsAt fp s5.heap) σ7 H7 s7 → N σ7 H7 → ∃ m, m < n ∧ ∃ i σ' H', Inv X pins σ' H' s7 ∧ tn i s7.heap ∧ (∀ b ∈ fp, H' b = none) ∧ W i m σ' H' := fun {σ7 H7} I7 n7 => by
      obtain ⟨m', hm, w7⟩ := hN σ7 H7 n7
      refine ⟨m', hm, i + 1, σ7, H7, I7.unpinned, T.keep _ _ _ st5 fun b hb o e => (I7.pin (b, o) (List.mem_append_right _ (List.mem_append_right _ (mem_pinsAt hb e)))).1, fun b hb => ?_, w7⟩
      obtain ⟨o, e, d⟩ := T.obj _ _ st5 b hb
      exact (I7.pin (b, o) (List.mem_append_right _ (List.mem_append_right _ (mem_pinsAt hb e)))).2.1
    cases f with
    | next => obtain ⟨σ7, H7, I7, n7⟩ := q7; exact again I7 n7
    | cont => obtain ⟨σ7, H7, I7, n7⟩ := q7; exact again I7 n7
    | brk => obtain ⟨σ7, H7, I7, q7⟩ := q7; exact ⟨σ7, H7, I7.unpinned, q7⟩
    | ret v => obtain ⟨x7, σ7, H7, I7, r7, q7⟩ := q7; exact ⟨x7, σ7, H7, I7.unpinned, r7, q7⟩
end
theorem for_list {K : PySem.W.Frag} {a : Addr} {xs : List V} {g : TG} {tb : TS} {D : Ends} {σ : St} {H : Hp} (Pv : Nat → St → Hp → Prop) (h0 : Pv 0 σ H) (hl : ∀ i σ H, i ≤ xs.length → Pv i σ H → SqL K H a xs)
    (hs : ∀ i x σ H, xs[i]? = some x → Pv i σ H → g x σ H fun σ2 H2 => tb { D with nx := Pv (i + 1), ct := Pv (i + 1), bk := D.nx } σ2 H2) (hd : ∀ σ H, Pv xs.length σ H → D.nx σ H) :
    ∃ W : Nat → Nat → St → Hp → Prop, (∃ m, W 0 m σ H) ∧ ∀ i m σ H, W i m σ H →
      ((Itl K a).stop i H ∧ D.nx σ H) ∨ ((Itl K a).go i H ∧ ∃ N : St → Hp → Prop, (∀ σ' H', N σ' H' → ∃ m', m' < m ∧ W (i + 1) m' σ' H') ∧ ∀ x H', (Itl K a).yld i H x H' → g x σ H' fun σ2 H2 => tb { D with nx := N, ct := N, bk := D.nx } σ2 H2) := by
  refine ⟨fun i m σ H => m = xs.length - i ∧ i ≤ xs.length ∧ Pv i σ H, ⟨xs.length, by simp, Nat.zero_le _, h0⟩, ?_⟩
  rintro i m σ H ⟨rfl, hi, p⟩
  have q := hl i σ H hi p
  by_cases hlt : i < xs.length
  · refine .inr ⟨⟨xs, xs[i], q, by simp [hlt]⟩, Pv (i + 1), fun σ' H' p' => ⟨xs.length - (i + 1), by omega, rfl, hlt, p'⟩, fun x H' y => ?_⟩
    obtain ⟨e, y⟩ := y
    subst e
    exact hs i x σ _ (y xs q) p
  · have e : i = xs.length := by omega
    subst e
    exact .inl ⟨⟨xs, q, Nat.le_refl _⟩, hd σ H p⟩
theorem for_range {lo : Int} {n : Nat} {g : TG} {tb : TS} {D : Ends} {σ : St} {H : Hp} (Pv : Nat → St → Hp → Prop) (h0 : Pv 0 σ H)
    (hs : ∀ i σ H, i < n → Pv i σ H → g (.int (lo + i)) σ H fun σ2 H2 => tb { D with nx := Pv (i + 1), ct := Pv (i + 1), bk := D.nx } σ2 H2) (hd : ∀ σ H, Pv n σ H → D.nx σ H) :
    ∃ W : Nat → Nat → St → Hp → Prop, (∃ m, W 0 m σ H) ∧ ∀ i m σ H, W i m σ H →
      ((Itr lo n).stop i H ∧ D.nx σ H) ∨ ((Itr lo n).go i H ∧ ∃ N : St → Hp → Prop, (∀ σ' H', N σ' H' → ∃ m', m' < m ∧ W (i + 1) m' σ' H') ∧ ∀ x H', (Itr lo n).yld i H x H' → g x σ H' fun σ2 H2 => tb { D with nx := N, ct := N, bk := D.nx } σ2 H2) := by
  refine ⟨fun i m σ H => m = n - i ∧ i ≤ n ∧ Pv i σ H, ⟨n, by simp, Nat.zero_le _, h0⟩, ?_⟩
  rintro i m σ H ⟨rfl, hi, p⟩
  by_cases hlt : i < n
  · refine .inr ⟨hlt, Pv (i + 1), fun σ' H' p' => ⟨n - (i + 1), by omega, rfl, hlt, p'⟩, fun x H' y => ?_⟩
    obtain ⟨e, y⟩ := y
    subst e y
    exact hs i σ _ hlt p
  · have e : i = n := by omega
    subst e
    exact .inl ⟨Nat.le_refl _, hd σ H p⟩
end L2
namespace L2
open PySem PySem.Spec PyProof.Rows
abbrev R2 := V → V → Hp → VK → Prop
def OpR (X : Cx) (f : Value → Value → Sem Value) (r : R2) : Prop :=
  ∀ (pins : List (Addr × Obj)) (s : Shared) (σ : St) (H : Hp) (x y : V) (v u : Value) (Q : VK), Inv X pins σ H s → RelV x v → RelV y u → r x y H Q →
    wpAny (model X.prog X.w) X.A (f v u) (EP X pins σ Q) X.xe s
def UnR (X : Cx) (f : Value → Sem Value) (r : V → Hp → VK → Prop) : Prop :=
  ∀ (pins : List (Addr × Obj)) (s : Shared) (σ : St) (H : Hp) (x : V) (v : Value) (Q : VK), Inv X pins σ H s → RelV x v → r x H Q →
    wpAny (model X.prog X.w) X.A (f v) (EP X pins σ Q) X.xe s
def CallR (X : Cx) (f : Value) (r : List V → Hp → VK → Prop) : Prop :=
  ∀ (pins : List (Addr × Obj)) (s : Shared) (σ : St) (H : Hp) (xs : List V) (us : List Value) (Q : VK), Inv X pins σ H s → Vals xs us → r xs H Q →
    wpAny (model X.prog X.w) X.A (call f us) (EP X pins σ Q) X.xe s
def tOp (r : R2) (ta tb : TE) : TE := fun σ H Q => ta σ H fun x H1 => tb σ H1 fun y H2 => r x y H2 Q
def tUn (r : V → Hp → VK → Prop) (ta : TE) : TE := fun σ H Q => ta σ H fun x H1 => r x H1 Q
def rI (C : Int → Int → Prop) (g : Int → Int → V) : R2 := fun x y H Q => ∃ i j, x = .int i ∧ y = .int j ∧ C i j ∧ Q (g i j) H
def rI0 (g : Int → Int → V) : R2 := fun x y H Q => ∃ i j, x = .int i ∧ y = .int j ∧ Q (g i j) H
def rU (g : Int → V) : V → Hp → VK → Prop := fun x H Q => ∃ i, x = .int i ∧ Q (g i) H
section
variable {X : Cx} {a b c : Expr} {ta tb tc : TE} {pos : Pos}
theorem binT (ha : PE X a ta) (hb : PE X b tb) {pins : List (Addr × Obj)} {s : Shared} {σ : St} {H : Hp} {R : V → V → Hp → Prop} (I : Inv X pins σ H s)
    (h : ta σ H fun x H1 => tb σ H1 fun y H2 => R x y H2) {Q : Value → Shared → Prop} {f : Value → Value → Sem Value}
    (hf : ∀ v u s2 x y H2, Inv X pins σ H2 s2 → RelV x v → RelV y u → R x y H2 → wpAny (model X.prog X.w) X.A (f v u) Q X.xe s2) :
    wpAny (model X.prog X.w) X.A (eval a X.env) (fun v s₁ => wpAny (model X.prog X.w) X.A (eval b X.env) (fun u s₂ => wpAny (model X.prog X.w) X.A (f v u) Q X.xe s₂) X.xe s₁) X.xe s := by
  refine thn (ha pins s σ H _ I h) fun v s1 ⟨x, H1, I1, r1, q1⟩ => ?_
  refine thn (hb pins s1 σ H1 _ I1 q1) fun u s2 ⟨y, H2, I2, r2, q2⟩ => ?_
  exact hf v u s2 x y H2 I2 r1 r2 q2
theorem pe_op {op : Operator} {r : R2} (ho : OpR X (binaryOp op) r) (ha : PE X a ta) (hb : PE X b tb) : PE X (.BinOp a op b pos) (tOp r ta tb) := by
  intro pins s σ H Q I h
  exact wpAny_BinOp (binT ha hb I h fun v u s2 x y H2 I2 rx ry q => ho pins s2 σ H2 x y v u Q I2 rx ry q)
theorem pe_un {op : UnaryOp} {r : V → Hp → VK → Prop} (ho : UnR X (unaryOp op) r) (ha : PE X a ta) : PE X (.UnaryOp op a pos) (tUn r ta) := by
  intro pins s σ H Q I h
  exact UnaryOp_ (thn (ha pins s σ H _ I h) fun v s1 ⟨x, H1, I1, r1, q1⟩ => ho pins s1 σ H1 x v Q I1 r1 q1)
theorem opI {f : Value → Value → Sem Value} {C : Int → Int → Prop} {g : Int → Int → Int}
    (rule : ∀ (i j : Int) (t u : Tok) (s : Shared) (Q : Value → Shared → Prop) (E : Value → Shared → Prop), C i j → Q (.int (g i j) s.toks) { s with toks := s.toks + 1 } → wpAny (model X.prog X.w) X.A (f (.int i t) (.int j u)) Q E s) :
    OpR X f (rI C fun i j => .int (g i j)) := by
  intro pins s σ H x y v u Q I rx ry h
  obtain ⟨i, j, rfl, rfl, hc, q⟩ := h
  obtain ⟨t, rfl⟩ := rx
  obtain ⟨t', rfl⟩ := ry
  exact rule i j t t' s _ _ hc ⟨.int (g i j), H, I.tok _, ⟨_, rfl⟩, q⟩
theorem opI0 {f : Value → Value → Sem Value} {g : Int → Int → Int}
    (rule : ∀ (i j : Int) (t u : Tok) (s : Shared) (Q : Value → Shared → Prop) (E : Value → Shared → Prop), Q (.int (g i j) s.toks) { s with toks := s.toks + 1 } → wpAny (model X.prog X.w) X.A (f (.int i t) (.int j u)) Q E s) :
    OpR X f (rI0 fun i j => .int (g i j)) := by
  intro pins s σ H x y v u Q I rx ry h
  obtain ⟨i, j, rfl, rfl, q⟩ := h
  obtain ⟨t, rfl⟩ := rx
  obtain ⟨t', rfl⟩ := ry
  exact rule i j t t' s _ _ ⟨.int (g i j), H, I.tok _, ⟨_, rfl⟩, q⟩
theorem opB0 {f : Value → Value → Sem Value} {g : Int → Int → Bool}
    (rule : ∀ (i j : Int) (t u : Tok) (s : Shared) (Q : Value → Shared → Prop) (E : Value → Shared → Prop), Q (.bool (g i j)) s → wpAny (model X.prog X.w) X.A (f (.int i t) (.int j u)) Q E s) :
    OpR X f (rI0 fun i j => .bl (g i j)) := by
  intro pins s σ H x y v u Q I rx ry h
  obtain ⟨i, j, rfl, rfl, q⟩ := h
  obtain ⟨t, rfl⟩ := rx
  obtain ⟨t', rfl⟩ := ry
  exact rule i j t t' s _ _ ⟨.bl (g i j), H, I, rfl, q⟩
theorem two_pow_nn (k : Nat) : (0 : Int) ≤ 2 ^ k := by
  rw [two_pow_cast]
  exact Int.natCast_nonneg _
theorem op_add : OpR X (binaryOp .Add) (rI0 fun i j => .int (i + j)) := opI0 fun _ _ _ _ _ _ _ q => add_int q
theorem op_sub : OpR X (binaryOp .Sub) (rI0 fun i j => .int (i - j)) := opI0 fun _ _ _ _ _ _ _ q => sub_int q
theorem op_mod : OpR X (binaryOp .Mod) (rI (fun _ j => 0 < j) fun i j => .int (i % j)) := opI fun i j _ _ _ _ _ hc q => by
  have h1 : (0 : Int) < j := hc
  exact mod_int' (by omega) (by rw [Int.fmod_eq_emod_of_nonneg i (by omega)]; exact q)
theorem op_shr : OpR X (binaryOp .RShift) (rI (fun _ j => 0 ≤ j) fun i j => .int (i / 2 ^ j.toNat)) := opI fun i j _ _ _ _ _ hc q =>
  rshift_int hc (by rw [Int.fdiv_eq_ediv_of_nonneg i (two_pow_nn _)]; exact q)
theorem op_and : OpR X (binaryOp .BitAnd) (rI0 fun i j => .int (Builtin.bitAnd i j)) := opI0 fun _ _ _ _ _ _ _ q => and_int q
theorem unI {f : Value → Sem Value} {g : Int → Int}
    (rule : ∀ (i : Int) (t : Tok) (s : Shared) (Q : Value → Shared → Prop) (E : Value → Shared → Prop), Q (.int (g i) s.toks) { s with toks := s.toks + 1 } → wpAny (model X.prog X.w) X.A (f (.int i t)) Q E s) :
    UnR X f (rU fun i => .int (g i)) := by
  intro pins s σ H x v Q I rx h
  obtain ⟨i, rfl, q⟩ := h
  obtain ⟨t, rfl⟩ := rx
  exact rule i t s _ _ ⟨.int (g i), H, I.tok _, ⟨_, rfl⟩, q⟩
theorem un_neg : UnR X (unaryOp .USub) (rU fun i => .int (-i)) := unI fun _ _ _ _ _ q => neg_int q
end
def scal : V → V → Bool
  | .non, .non => true | .non, .int _ => true | .int _, .non => true | .non, .bl _ => true | .bl _, .non => true | .non, .str _ => true | .str _, .non => true
  | .int _, .int _ => true | .bl _, .bl _ => true | .str _, .str _ => true | .byt _, .byt _ => true
  | .int _, .str _ => true | .str _, .int _ => true | .bl _, .str _ => true | .str _, .bl _ => true
  | _, _ => false
def rEq : R2 := fun x y H Q => scal x y = true ∧ Q (.bl (decide (x = y))) H
def rNe : R2 := fun x y H Q => scal x y = true ∧ Q (.bl (!decide (x = y))) H
theorem dec_int {i j : Int} : decide (V.int i = V.int j) = (i == j) := by
  rw [Bool.eq_iff_iff]
  simp
theorem dec_bl {i j : Bool} : decide (V.bl i = V.bl j) = (i == j) := by
  rw [Bool.eq_iff_iff]
  simp
theorem dec_str {i j : Str} : decide (V.str i = V.str j) = (i == j) := by
  rw [Bool.eq_iff_iff]
  simp
theorem dec_byt {i j : Array UInt8} : decide (V.byt i = V.byt j) = (i.toList == j.toList) := by
  rw [Bool.eq_iff_iff]
  cases i
  cases j
  simp
section
variable {X : Cx} {a b c : Expr} {ta tb tc : TE} {pos : Pos}
theorem fin_bl {pins : List (Addr × Obj)} {σ : St} {H : Hp} {s : Shared} {Q : VK} {k k' : Bool} (I : Inv X pins σ H s) (q : Q (.bl k) H) (e : k = k') : EP X pins σ Q (.bool k') s := by
  subst e
  exact ⟨.bl k, H, I, rfl, q⟩
theorem op_eq : OpR X (compareOp .Eq) rEq := by
  intro pins s σ H x y v u Q I rx ry h
  obtain ⟨hs, q⟩ := h
  cases x with
  | non =>
    cases rx
    cases y with
    | non => cases ry; exact PySem.EqNone.eq_none_none (fin_bl I q (by simp))
    | bl j => cases ry; exact PySem.EqNone.eq_none_bool (fin_bl I q (by simp))
    | int j => obtain ⟨t', rfl⟩ := ry; exact PySem.EqNone.eq_none_int (fin_bl I q (by simp))
    | str j => obtain ⟨t', rfl⟩ := ry; exact PySem.EqNone.eq_none_str (fin_bl I q (by simp))
    | _ => exact absurd (show false = true from hs) Bool.false_ne_true
  | bl i =>
    cases rx
    cases y with
    | non => cases ry; exact PySem.EqNone.eq_bool_none (fin_bl I q (by simp))
    | bl j => cases ry; exact eq_bool (fin_bl I q dec_bl)
    | str j => obtain ⟨t', rfl⟩ := ry; exact PySem.EqMixed.eq_bool_str (fin_bl I q (by simp))
    | _ => exact absurd (show false = true from hs) Bool.false_ne_true
  | int i =>
    obtain ⟨t, rfl⟩ := rx
    cases y with
    | non => cases ry; exact PySem.EqNone.eq_int_none (fin_bl I q (by simp))
    | int j => obtain ⟨t', rfl⟩ := ry; exact eq_int (fin_bl I q dec_int)
    | str j => obtain ⟨t', rfl⟩ := ry; exact PySem.EqMixed.eq_int_str (fin_bl I q (by simp))
    | _ => exact absurd (show false = true from hs) Bool.false_ne_true
  | str i =>
    obtain ⟨t, rfl⟩ := rx
    cases y with
    | non => cases ry; exact PySem.EqNone.eq_str_none (fin_bl I q (by simp))
    | bl j => cases ry; exact PySem.EqMixed.eq_str_bool (fin_bl I q (by simp))
    | int j => obtain ⟨t', rfl⟩ := ry; exact PySem.EqMixed.eq_str_int (fin_bl I q (by simp))
    | str j => obtain ⟨t', rfl⟩ := ry; exact eq_str (fin_bl I q dec_str)
    | _ => exact absurd (show false = true from hs) Bool.false_ne_true
  | byt i =>
    obtain ⟨t, rfl⟩ := rx
    cases y with
    | byt j => obtain ⟨t', rfl⟩ := ry; exact PySem.W.eq_bytes (fin_bl I q dec_byt)
    | _ => exact absurd (show false = true from hs) Bool.false_ne_true
  | _ => cases y <;> exact absurd (show false = true from hs) Bool.false_ne_true
theorem op_ne : OpR X (compareOp .NotEq) rNe := by
  intro pins s σ H x y v u Q I rx ry h
  obtain ⟨hs, q⟩ := h
  cases x with
  | non =>
    cases rx
    cases y with
    | non => cases ry; exact PySem.EqNone.ne_none_none (fin_bl I q (by simp))
    | bl j => cases ry; exact PySem.EqNone.ne_none_bool (fin_bl I q (by simp))
    | int j => obtain ⟨t', rfl⟩ := ry; exact PySem.EqNone.ne_none_int (fin_bl I q (by simp))
    | str j => obtain ⟨t', rfl⟩ := ry; exact PySem.EqNone.ne_none_str (fin_bl I q (by simp))
    | _ => exact absurd (show false = true from hs) Bool.false_ne_true
  | bl i =>
    cases rx
    cases y with
    | non => cases ry; exact PySem.EqNone.ne_bool_none (fin_bl I q (by simp))
    | bl j => cases ry; exact ne_bool (fin_bl I q (congrArg not dec_bl))
    | str j => obtain ⟨t', rfl⟩ := ry; exact PySem.EqMixed.ne_bool_str (fin_bl I q (by simp))
    | _ => exact absurd (show false = true from hs) Bool.false_ne_true
  | int i =>
    obtain ⟨t, rfl⟩ := rx
    cases y with
    | non => cases ry; exact PySem.EqNone.ne_int_none (fin_bl I q (by simp))
    | int j => obtain ⟨t', rfl⟩ := ry; exact ne_int (fin_bl I q (congrArg not dec_int))
    | str j => obtain ⟨t', rfl⟩ := ry; exact PySem.EqMixed.ne_int_str (fin_bl I q (by simp))
    | _ => exact absurd (show false = true from hs) Bool.false_ne_true
  | str i =>
    obtain ⟨t, rfl⟩ := rx
    cases y with
    | non => cases ry; exact PySem.EqNone.ne_str_none (fin_bl I q (by simp))
    | bl j => cases ry; exact PySem.EqMixed.ne_str_bool (fin_bl I q (by simp))
    | int j => obtain ⟨t', rfl⟩ := ry; exact PySem.EqMixed.ne_str_int (fin_bl I q (by simp))
    | str j => obtain ⟨t', rfl⟩ := ry; exact ne_str (fin_bl I q (congrArg not dec_str))
    | _ => exact absurd (show false = true from hs) Bool.false_ne_true
  | byt i =>
    obtain ⟨t, rfl⟩ := rx
    cases y with
    | byt j => obtain ⟨t', rfl⟩ := ry; exact PySem.W.ne_bytes (fin_bl I q (congrArg not dec_byt))
    | _ => exact absurd (show false = true from hs) Bool.false_ne_true
  | _ => cases y <;> exact absurd (show false = true from hs) Bool.false_ne_true
theorem op_lt : OpR X (compareOp .Lt) (rI0 fun i j => .bl (decide (i < j))) := opB0 fun _ _ _ _ _ _ _ q => lt_int q
theorem op_le : OpR X (compareOp .LtE) (rI0 fun i j => .bl (decide (i ≤ j))) := opB0 fun _ _ _ _ _ _ _ q => le_int q
theorem op_gt : OpR X (compareOp .Gt) (rI0 fun i j => .bl (decide (j < i))) := opB0 fun _ _ _ _ _ _ _ q => gt_int q
theorem op_ge : OpR X (compareOp .GtE) (rI0 fun i j => .bl (decide (j ≤ i))) := opB0 fun _ _ _ _ _ _ _ q => ge_int q
theorem nomark (b : Expr) {op : CmpOp} (h : op ≠ .In := by decide) (h2 : op ≠ .NotIn := by decide) : behindInMarks op b = false := by
  have e1 : (op == CmpOp.In) = false := by cases op <;> first | rfl | exact absurd rfl h
  have e2 : (op == CmpOp.NotIn) = false := by cases op <;> first | rfl | exact absurd rfl h2
  cases b <;> simp [behindInMarks, e1, e2]
theorem pe_cmpR {op : CmpOp} {r : R2} (ho : OpR X (compareOp op) r) (ha : PE X a ta) (hb : PE X b tb) (hm : behindInMarks op b = false) : PE X (.Compare a [op] [b] pos) (tOp r ta tb) := by
  intro pins s σ H Q I h
  exact wpAny_Compare1 (binT ha hb I h fun v u s2 x y H2 I2 rx ry q => ho pins s2 σ H2 x y v u Q I2 rx ry q) hm
def tTest (t : TE) : TT := fun σ H Q => t σ H fun x H' => ∃ k, x = .bl k ∧ Q k H'
theorem pt_cmpR {op : CmpOp} {r : R2} (ho : OpR X (compareOp op) r) (ha : PE X a ta) (hb : PE X b tb) (hm : behindInMarks op b = false) : PT X (.Compare a [op] [b] pos) (tTest (tOp r ta tb)) := by
  intro pins s σ H Q I h
  refine wpAny_isTrue_Compare1 (thn (ha pins s σ H _ I h) fun v s1 ⟨x, H1, I1, r1, q1⟩ => thn (hb pins s1 σ H1 _ I1 q1) fun u s2 ⟨y, H2, I2, r2, q2⟩ =>
    thn (ho pins s2 σ H2 x y v u _ I2 r1 r2 q2) fun c s3 ⟨z, H3, I3, r3, k, e, q3⟩ => ?_) hm
  subst e
  cases r3
  exact wpAny_truthy_bool ⟨H3, I3, q3⟩
def tChain (r r' : R2) (ta tb tc : TE) : TE := fun σ H Q => ta σ H fun x H1 => tb σ H1 fun y H2 => r x y H2 fun z H3 => ∃ k, z = .bl k ∧
  (if k = true then tc σ H3 fun w' H4 => r' y w' H4 Q else Q (.bl false) H3)
theorem pe_chain {op op' : CmpOp} {r r' : R2} (ho : OpR X (compareOp op) r) (ho' : OpR X (compareOp op') r') (ha : PE X a ta) (hb : PE X b tb) (hc : PE X c tc)
    (hm : lastMarks [op, op'] [b, c] = false := by with_unfolding_all rfl) : PE X (.Compare a [op, op'] [b, c] pos) (tChain r r' ta tb tc) := by
  intro pins s σ H Q I h
  refine Compare_chain (thn (ha pins s σ H _ I h) fun v s1 ⟨x, H1, I1, r1, q1⟩ => chain_link (thn (hb pins s1 σ H1 _ I1 q1) fun u s2 ⟨y, H2, I2, r2, q2⟩ =>
    thn (ho pins s2 σ H2 x y v u _ I2 r1 r2 q2) fun d s3 ⟨z, H3, I3, r3, k, e, q3⟩ => ?_)) hm
  subst e
  cases r3
  refine wpAny_truthy_bool ?_
  cases k with
  | false => exact ite_ff ⟨.bl false, H3, I3, rfl, q3⟩
  | true => exact ite_tt (chain_last (thn (hc pins s3 σ H3 _ I3 q3) fun w' s4 ⟨z', H4, I4, r4, q4⟩ => ho' pins s4 σ H4 y z' u w' Q I4 r2 r4 q4))
theorem line63 : (sizeLine : Nat) < 2 ^ 63 := by rw [sizeLine_eq]; decide
theorem vals1 {x : V} {us : List Value} (r : Vals [x] us) : ∃ u, us = [u] ∧ RelV x u := by
  cases r with
  | cons r1 r2 => cases r2; exact ⟨_, rfl, r1⟩
theorem vals2 {x y : V} {us : List Value} (r : Vals [x, y] us) : ∃ u w', us = [u, w'] ∧ RelV x u ∧ RelV y w' := by
  cases r with
  | cons r1 r2 =>
    cases r2 with
    | cons r3 r4 => cases r4; exact ⟨_, _, rfl, r1, r3⟩
theorem call_abs : CallR X (.builtin "abs") (fun xs H Q => ∃ i, xs = [.int i] ∧ Q (.int (if i < 0 then -i else i)) H) := by
  intro pins s σ H xs us Q I r h
  obtain ⟨i, rfl, q⟩ := h
  obtain ⟨u, rfl, t, rfl⟩ := vals1 r
  exact call_abs_int fun u tk => ⟨.int (if i < 0 then -i else i), H, I.tok _, ⟨_, rfl⟩, q⟩
theorem call_max2 (hc : X.calm = true) : CallR X (.builtin "max") (fun xs H Q => ∃ i j, xs = [.int i, .int j] ∧ Q (.int (if j > i then j else i)) H) := by
  intro pins s σ H xs us Q I r h
  obtain ⟨i, j, rfl, q⟩ := h
  obtain ⟨u, w', rfl, ⟨t, rfl⟩, ⟨t', rfl⟩⟩ := vals2 r
  refine max_two_ints (I.ok.hd hc) fun h' tk k => ⟨_, H, I.kept k, ?_, q⟩
  by_cases hj : j > i
  · rw [if_pos hj, if_pos hj]; exact ⟨_, rfl⟩
  · rw [if_neg hj, if_neg hj]; exact ⟨_, rfl⟩
theorem call_min2 (hc : X.calm = true) : CallR X (.builtin "min") (fun xs H Q => ∃ i j, xs = [.int i, .int j] ∧ Q (.int (if j < i then j else i)) H) := by
  intro pins s σ H xs us Q I r h
  obtain ⟨i, j, rfl, q⟩ := h
  obtain ⟨u, w', rfl, ⟨t, rfl⟩, ⟨t', rfl⟩⟩ := vals2 r
  refine min_two_ints (I.ok.hd hc) fun h' tk k => ⟨_, H, I.kept k, ?_, q⟩
  by_cases hj : j < i
  · rw [if_pos hj, if_pos hj]; exact ⟨_, rfl⟩
  · rw [if_neg hj, if_neg hj]; exact ⟨_, rfl⟩
end
end L2
namespace L2
open PySem PySem.Spec PyProof.Rows
structure ObjM (h : Heap) (x dx C : Addr) (mA : Str → Option Value) : Prop where
  obj : h.get? x = some (PySem.W.instObj C dx)
  ns : h.Ns1 dx mA
  ne : dx ≠ x
theorem lookIn_ns {h : Heap} {dx : Addr} {mA : Str → Option Value} (n : h.Ns1 dx mA) : ∃ od, h.get? dx = some od ∧ ∀ name, PySem.W.lookIn name od = some (mA name) := by
  obtain ⟨o, es, ep, ho, hd, hk, _, hm⟩ := n
  refine ⟨o, ho, fun name => ?_⟩
  have e := hm name
  unfold nsFind findBy at e
  rw [← Array.find?_toList] at e
  unfold PySem.W.lookIn
  rw [hd]
  dsimp only
  split
  · rename_i y q
    rw [q] at e
    exact congrArg some e
  · rename_i q
    rw [q] at e
    have a : es.toList.any (·.refKey) = false := by
      rw [List.any_eq_false]
      intro y hy
      obtain ⟨z, t, hkey⟩ := hk y (Array.mem_toList_iff.mp hy)
      simp [DictEntry.refKey, hkey]
    have a' : ¬ es.toList.any (·.refKey) = true := by rw [a]; exact Bool.false_ne_true
    rw [if_neg a']
    exact congrArg some e
theorem ObjM.look {h : Heap} {x dx C : Addr} {mA : Str → Option Value} (I : ObjM h x dx C mA) : ∃ od, PySem.W.InstAt h x (PySem.W.instObj C dx) C (some od) ∧ ∀ name, PySem.W.lookIn name od = some (mA name) :=
  let ⟨od, ho, hl⟩ := lookIn_ns I.ns
  ⟨od, ⟨I.obj, rfl, rfl, ho⟩, hl⟩
section
variable {prog : Program} {w : World} {A : Around} {E : Value → Shared → Prop} {s : Shared} {K : PySem.W.Frag} {x dx C f : Addr} {mA : Str → Option Value} {name : Str} {v : Value}
end
theorem RelO.some_of {v : V} {o : Option Value} (r : RelO (some v) o) : ∃ u, o = some u ∧ RelV v u := by
  cases o with
  | none => exact (show False from r).elim
  | some u => exact ⟨u, rfl, r⟩
section
variable {P : Program} {w : World} {H H' : Hp} {h h' : Heap} {a C dx : Addr} {fs fs' : List (Str × V)}
theorem ins_get (hok : HOk P w H h) (e : H a = some (.ins C dx fs)) : ∃ mA, ObjM h a dx C mA ∧ (∀ f, RelO (fs.lookup f) (mA f)) ∧ PySem.Within mA (fs.map (·.1)) ∧ fs.length ≤ 1000 ∧ H dx = some (.own a) := by
  obtain ⟨d, z, ne, ob, mA, n, r, q⟩ := (show ObjOk P w H h a (.ins C dx fs) from hok a _ e)
  exact ⟨mA, ⟨ob, n, ne⟩, r, q, z, d⟩
end
structure Cls (K : PySem.W.Frag) (C : Addr) : Prop where
  pg : PySem.W.plainGet K C Str.empty = true
  hd : PySem.W.hasDictIn K C = true
  po : PySem.W.plainOver K C = true
  sa : PySem.W.findIn K (.ref C) "__setattr__" = some (some (.builtin "object.__setattr__"))
theorem Cls.get {K : PySem.W.Frag} {C : Addr} (c : Cls K C) (f : Str) : PySem.W.plainGet K C f = true := c.pg
section
variable {X : Cx} {pins : List (Addr × Obj)} {σ : St} {H : Hp} {s : Shared} {a C dx : Addr} {fs : List (Str × V)} {f : Str} {v : V} {A : Around} {E : Value → Shared → Prop}
end
section
variable {X : Cx} {o e value : Expr} {f : Str} {pos pos' tpos : Pos} {ta tv : TE}
end
section
variable {X : Cx} {pins : List (Addr × Obj)} {σ : St} {H : Hp} {s : Shared} {A : Around} {E : Value → Shared → Prop} {Q : Value → Shared → Prop} {c : Value} {b : Bool}
inductive TyOf (K : PySem.W.Frag) (H : Hp) : V → Value → Prop where
  | non : TyOf K H .non (.type "NoneType")
  | bl (x : Bool) : TyOf K H (.bl x) (.type "bool")
  | int (i : Int) : TyOf K H (.int i) (.type "int")
  | str (x : Str) : TyOf K H (.str x) (.type "str")
  | flt (x : UInt64) : TyOf K H (.flt x) (.type "float")
  | lst {a : Addr} {xs : List V} (e : H a = some (.lst xs)) : TyOf K H (.ref a) (.type "list")
  | frz {a : Addr} {o : Obj} {xs : List V} (e : H a = some (.frz o (.lst xs))) : TyOf K H (.ref a) (.type "list")
  | tup {a : Addr} {xs : List V} (e : H a = some (.tup xs)) : TyOf K H (.ref a) (.type "tuple")
  | dK {a : Addr} {kvs : List (Key × V)} (e : H a = some (.dK kvs)) : TyOf K H (.ref a) (.type "dict")
  | dT {a : Addr} {kvs : List (List Key × V)} (e : H a = some (.dT kvs)) : TyOf K H (.ref a) (.type "dict")
  | ins {a C dx : Addr} {fs : List (Str × V)} (e : H a = some (.ins C dx fs)) (cl : Cls K C) (ha : PySem.W.findIn K (.ref C) "__class__" = some (some (.builtin "object.__class__")))
      (hn : PySem.W.specialIn K (.builtin "object.__class__") "__get__" = some (some (.builtin "getset_descriptor.__get__"))) (htk : PySem.W.takesIn K (.builtin "object.__class__") = some true)
      (hm : PySem.W.mroIn K C (.type "object") = some true) : TyOf K H (.ref a) (.ref C)
theorem isinst_ok {x : V} {u t : Value} (I : Inv X pins σ H s) (rx : RelV x u) (ty : TyOf X.K H x t) (e : PySem.W.kitOne X.K t c = some b) (h : ∀ tk, Q (.bool b) { s with toks := tk }) :
    wpAny (model X.prog X.w) A (call (.builtin "isinstance") [u, c]) Q E s := by
  cases ty with
  | non => cases (show u = Value.none from rx); exact PySem.W.kia_one PySem.W.kitx_none I.kIn True.intro e (fun z => nomatch z) h
  | bl y => cases (show u = Value.bool y from rx); exact PySem.W.kia_one PySem.W.kitx_bool I.kIn True.intro e (fun z => nomatch z) h
  | int i => obtain ⟨t, q⟩ := (show ∃ t, u = Value.int i t from rx); cases q; exact PySem.W.kia_one PySem.W.kitx_int I.kIn True.intro e (fun z => nomatch z) h
  | str y => obtain ⟨t, q⟩ := (show ∃ t, u = Value.str y t from rx); cases q; exact PySem.W.kia_one PySem.W.kitx_str I.kIn True.intro e (fun z => nomatch z) h
  | flt y => obtain ⟨t, q⟩ := (show ∃ t, u = Value.float y t from rx); cases q; exact PySem.W.kia_one PySem.W.kitx_float I.kIn True.intro e (fun z => nomatch z) h
  | @lst a xs ea =>
    cases (show u = Value.ref a from rx)
    obtain ⟨_, _, n, _, h1⟩ := (show ObjOk X.prog X.w H s.heap a (.lst xs) from I.hok a _ ea)
    exact PySem.W.kia_one PySem.W.kitx_list I.kIn ⟨_, h1, rfl⟩ e (fun z => nomatch z) h
  | @frz a ob xs ea =>
    cases (show u = Value.ref a from rx)
    obtain ⟨_, _, _, n, _, h1⟩ := (show ObjOk X.prog X.w H s.heap a (.frz ob (.lst xs)) from I.hok a _ ea)
    exact PySem.W.kia_one PySem.W.kitx_list I.kIn ⟨_, h1, rfl⟩ e (fun z => nomatch z) h
  | @tup a xs ea =>
    cases (show u = Value.ref a from rx)
    obtain ⟨_, _, _, p⟩ := (show ObjOk X.prog X.w H s.heap a (.tup xs) from I.hok a _ ea)
    obtain ⟨o, h1, h2, _⟩ := p
    exact PySem.W.kia_one PySem.W.kitx_tuple I.kIn ⟨o, h1, h2⟩ e (fun z => nomatch z) h
  | @dK a kvs ea =>
    cases (show u = Value.ref a from rx)
    obtain ⟨_, _, vs, _, p⟩ := (show ObjOk X.prog X.w H s.heap a (.dK kvs) from I.hok a _ ea)
    obtain ⟨o, es, ep, h1, h2, _⟩ := p
    exact PySem.W.kia_one PySem.W.kitx_dict I.kIn ⟨o, h1, h2.1⟩ e (fun z => nomatch z) h
  | @dT a kvs ea =>
    cases (show u = Value.ref a from rx)
    obtain ⟨_, _, xs, _, o, es, ep, h1, h2, _⟩ := (show ObjOk X.prog X.w H s.heap a (.dT kvs) from I.hok a _ ea)
    exact PySem.W.kia_one PySem.W.kitx_dict I.kIn ⟨o, h1, h2.1⟩ e (fun z => nomatch z) h
  | @ins a C dx fs ea cl ha hn htk hm =>
    cases (show u = Value.ref a from rx)
    obtain ⟨mA, O, _⟩ := ins_get I.hok ea
    obtain ⟨od, J, _⟩ := O.look
    exact PySem.W.kia_one (PySem.W.kitx_own (cl.get _) cl.hd ha hn htk hm) I.kIn J e (fun z => nomatch z) h
end
end L2
namespace L2
open PySem PySem.Spec PyProof.Rows
structure Room (k : Nat) (A : Around) : Prop where
  hd : A.handled = none
  dp : A.depth + 3 * k + 5 < recursionLimit
  un : A.units + 16 * k + 200 < cLine
theorem Room.mono {j k : Nat} {A : Around} (r : Room k A) (h : j ≤ k) : Room j A := ⟨r.hd, by have := r.dp; omega, by have := r.un; omega⟩
theorem Room.deeper {k : Nat} {A : Around} (r : Room (k + 1) A) (env : Env) : Room k (A.deeper env) :=
  ⟨r.hd, by have := r.dp; show A.depth + 1 + 3 * k + 5 < _; omega, by have := r.un; show A.units + 3 + 16 * k + 200 < _; omega⟩
theorem Room.depth {k : Nat} {A : Around} (r : Room k A) : A.depth < recursionLimit := by have := r.dp; omega
theorem Room.units {k : Nat} {A : Around} (r : Room k A) : A.units + 64 < cLine := by have := r.un; omega
def tNil : TA := fun _ H Q => Q [] H
def tCons (ta : TE) (tr : TA) : TA := fun σ H Q => ta σ H fun x H1 => tr σ H1 fun xs H2 => Q (x :: xs) H2
section
variable {X : Cx} {e : Expr} {es : List Expr} {te : TE} {t : TA} {pos : Pos}
theorem pa_nil : PA X [] tNil := fun _ _ _ _ H Q I h => Calls.spliced_nil ⟨[], H, I, .nil, h⟩
theorem pa_cons (ha : PE X e te) (hr : PA X es t) (hs : starEach (e :: es) X.env = (false, eval e X.env) :: starEach es X.env := by rfl) : PA X (e :: es) (tCons te t) := by
  intro pos pins s σ H Q I h
  rw [hs]
  show wpAny _ _ (spliced ((false, eval e X.env) :: backTo pos (starEach es X.env))) _ _ s
  refine Calls.spliced_cons (thn (ha pins s σ H _ I h) fun u s1 ⟨x, H1, I1, r1, q1⟩ => ?_)
  exact thn (hr pos pins s1 σ H1 _ I1 q1) fun us s2 ⟨xs, H2, I2, r2, q2⟩ => ⟨x :: xs, H2, I2, .cons r1 r2, q2⟩
def tTup (t : TA) : TE := fun σ H Q => t σ H fun xs H1 => xs.length ≤ sizeLine ∧ ∀ p, H1 p = none → Q (.ref p) (upd H1 p (.tup xs))
def tLst (t : TA) : TE := fun σ H Q => t σ H fun xs H1 => xs.length ≤ sizeLine ∧ ∀ p, H1 p = none → Q (.ref p) (upd H1 p (.lst xs))
theorem pe_tup {x1} (h : PA X es t) : PE X (.Tuple es x1 pos) (tTup t) := by
  intro pins s σ H Q I hq
  refine wpAny_Tuple_spliced (thn (h pos pins s σ H _ I hq) fun us s1 ⟨xs, H1, I1, r, z, q⟩ => ⟨by rw [← r.length]; exact z, ?_⟩)
  have hf : H1 s1.heap.objs.size = none := I1.hok.fresh (Nat.le_refl _)
  refine ⟨.ref s1.heap.objs.size, upd H1 s1.heap.objs.size (.tup xs), I1.laid (t' := s1.toks) (fun b u e => Heap.get?_push_of_some _ e) (Nat.le_refl _) ?_, rfl, q _ hf⟩
  exact ⟨z, us, r, ⟨_, Heap.get?_push_size _ rfl, rfl, _, rfl⟩⟩
theorem pe_lst (h : PA X es t) : PE X (.List es pos) (tLst t) := by
  intro pins s σ H Q I hq
  refine wpAny_List_spliced (thn (h pos pins s σ H _ I hq) fun us s1 ⟨xs, H1, I1, r, z, q⟩ => ⟨by rw [← r.length]; exact z, ?_⟩)
  have hf : H1 s1.heap.objs.size = none := I1.hok.fresh (Nat.le_refl _)
  refine ⟨.ref s1.heap.objs.size, upd H1 s1.heap.objs.size (.lst xs), I1.laid (t' := s1.toks) (fun b u e => Heap.get?_push_of_some _ e) (Nat.le_refl _) ?_, rfl, q _ hf⟩
  exact ⟨z, us, 0, r, Heap.get?_push_size _ rfl⟩
end
abbrev Sp := List V → Hp → VK → XK → Prop
abbrev CXT := List Env → Hp → Shared → XK → Value → Shared → Prop
structure Env0 (P : Program) (w : World) (K : PySem.W.Frag) (mg : Str → Option Value) (base : Heap) (A : Around) (outer : List Env) (s : Shared) (H : Hp) : Prop where
  frames : A.frames = some outer
  mod : Mod K mg base
  bs : ∀ b o, base.get? b = some o → s.heap.get? b = some o ∧ H b = none
  bsz : base.objs.size ≤ s.heap.objs.size
  funs : s.heap.FunFrames base outer
  frf : ∀ b ∈ frs outer, H b = none
  hok : HOk P w H s.heap
  bare : AllBare s.gens
def CE (outer : List Env) (P : Program) (w : World) (H : Hp) (s : Shared) (Q : VK) (u : Value) (s' : Shared) : Prop :=
  ∃ v H', s'.os = s.os ∧ AllBare s'.gens ∧ Un (frs outer) [] H H' s.heap s'.heap ∧ HOk P w H' s'.heap ∧ RelV v u ∧ Q v H'
def CR (CX : CXT) (outer : List Env) (P : Program) (w : World) (H : Hp) (s : Shared) (Q : VK) (E : XK) (r : Result) (s' : Shared) : Prop :=
  match r with
  | .ok (.ret u) => CE outer P w H s Q u s'
  | .ok _ => False
  | .error e => CX outer H s E e s'
structure FnOk (P : Program) (w : World) (K : PySem.W.Frag) (mg : Str → Option Value) (base : Heap) (CX : CXT) (k : Nat) (f : Addr) (fd : FuncData) (ps : List Str) (sp : Sp) : Prop where
  len : ∀ vs H Q E, sp vs H Q E → vs.length = ps.length
  run : ∀ (A : Around) (outer : List Env) (s : Shared) (H : Hp) (args : Args) (us : List Value) (vs : List V) (Q : VK) (E : XK), Room k A → Env0 P w K mg base A outer s H → BindsTo s fd args (ps.zip us) → Vals vs us → sp vs H Q E →
    codeAny (model P w) A (.call (.ref f) args) (CR CX outer P w H s Q E) s
theorem FnOk.mono {P : Program} {w : World} {K : PySem.W.Frag} {mg : Str → Option Value} {base : Heap} {CX : CXT} {j k : Nat} {f : Addr} {fd : FuncData} {ps : List Str} {sp : Sp} (F : FnOk P w K mg base CX j f fd ps sp) (h : j ≤ k) :
    FnOk P w K mg base CX k f fd ps sp := ⟨F.len, fun A outer s H args us vs Q E hr => F.run A outer s H args us vs Q E (hr.mono h)⟩
section
variable {X : Cx} {pins : List (Addr × Obj)} {σ : St} {H : Hp} {s s' : Shared}
theorem Inv.env0 (I : Inv X pins σ H s) : Env0 X.prog X.w X.K X.mg X.base X.A X.stack s H :=
  ⟨I.ok.frames, I.ok.mod, I.bs, Nat.le_trans I.ok.bsz I.sz, I.stack, I.stkFree, I.hok, I.bare⟩
theorem Inv.after {Q : VK} {u : Value} (I : Inv X pins σ H s) (h : CE X.stack X.prog X.w H s Q u s') : EP X pins σ Q u s' := by
  obtain ⟨v, H', os, bare, un, hok, r, q⟩ := h
  obtain ⟨hh, g, d, t, os'⟩ := s'
  obtain rfl : os' = s.os := os
  exact ⟨v, H', I.call (h' := hh) (g' := g) (d' := d) (t' := t) (ch := []) un hok bare (fun b z => absurd z (by simp)), r, q⟩
end
def tCall (sp : Sp) (dvs : List V) (E : XK) (t : TA) : TE := fun σ H Q => t σ H fun vs H1 => sp (vs ++ dvs) H1 Q E
def Binds (K : PySem.W.Frag) (fd : FuncData) (ps : List Str) (ds : List Value) : Prop :=
  ∀ (s : Shared) (us : List Value), K.In s.heap → (us ++ ds).length = ps.length → BindsTo s fd ⟨us, []⟩ (ps.zip (us ++ ds))
theorem Binds.all {K : PySem.W.Frag} {fd : FuncData} {ps : List Str} (h : ∀ us : List Value, us.length = ps.length → bindArgs fd ⟨us, []⟩ = pure (ps.zip us)) : Binds K fd ps [] := fun s us _ hl => by
  rw [List.append_nil] at hl ⊢
  exact .of_eq (h us hl)
def Passes (CX : CXT) (X : Cx) (E : XK) : Prop := ∀ (pins : List (Addr × Obj)) (σ : St) (H : Hp) (s : Shared) (e : Value) (s' : Shared), Inv X pins σ H s → CX X.stack H s E e s' → X.xe e s'
section
variable {X : Cx} {CX : CXT} {k : Nat} {f C : Addr} {fd : FuncData} {ps : List Str} {sp : Sp} {dvs : List V} {ds : List Value} {E : XK} {x m : Str} {p pos apos : Pos} {e o : Expr} {es : List Expr} {ta : TE} {t : TA}
theorem run_fn {pins : List (Addr × Obj)} {σ : St} {H : Hp} {s : Shared} {Q : VK} {us : List Value} {vs : List V} (F : FnOk X.prog X.w X.K X.mg X.base CX k f fd ps sp) (hr : Room k X.A) (hb : Binds X.K fd ps ds) (hd : Vals dvs ds) (hx : Passes CX X E)
    (I : Inv X pins σ H s) (r : Vals vs us) (h : sp (vs ++ dvs) H Q E) : wpAny (model X.prog X.w) X.A (call (.ref f) us) (EP X pins σ Q) X.xe s := by
  have r2 : Vals (vs ++ dvs) (us ++ ds) := r.append hd
  have hl : (us ++ ds).length = ps.length := by rw [← r2.length]; exact F.len _ _ _ _ h
  refine wpAny_call (codeAny_mono (F.run X.A X.stack s H ⟨us, []⟩ (us ++ ds) (vs ++ dvs) Q E hr I.env0 (hb s us I.kIn hl) r2 h) fun r s' hq => ?_)
  cases r with
  | error e => exact hx pins σ H s e s' I hq
  | ok fl =>
    cases fl with
    | ret u => exact I.after hq
    | next => exact False.elim hq
    | brk => exact False.elim hq
    | cont => exact False.elim hq
theorem pe_call (F : FnOk X.prog X.w X.K X.mg X.base CX k f fd ps sp) (hr : Room k X.A) (hg : Gl X x) (hm : X.mg x = some (.ref f)) (hk : PySem.W.keepIn X.K (.ref f) = true) (hb : Binds X.K fd ps ds) (hd : Vals dvs ds) (hx : Passes CX X E)
    (ha : PA X (e :: es) t) (hdb : (x == ("__debug__" : Str)) = false := by decide) (he : starEach (e :: es) X.env = (false, eval e X.env) :: starEach es X.env := by rfl) (hpl : (backTo pos (starEach es X.env)).any (·.1) = false := by rfl) :
    PE X (.Call (.Name x p) (e :: es) [] pos) (tCall sp dvs E t) := by
  intro pins s σ H Q I h
  refine wpAny_Call_Name_kw (ld_glob I hg hm ?_ hdb)
  refine PySem.W.callWith_K (h₀ := X.base) I.ok.mod.kin hk (thn (ha pos pins s σ H _ I h) fun us s1 ⟨vs, H1, I1, r, q⟩ => ⟨I1.kIn, ?_⟩) he hpl
  exact run_fn F hr hb hd hx I1 r q
end
section
variable {X : Cx} {CX : CXT} {k : Nat} {f C : Addr} {fd : FuncData} {ps ks : List Str} {sp : Sp} {E : XK} {x m : Str} {p pos apos kpos : Pos} {e o : Expr} {es : List Expr} {kws : List Keyword} {te ta : TE} {t tk : TA} {nm : Option Str}
variable {g : List Value → List Value → List Value} {gV : List V → List V → List V}
end
structure FnScope (N P : List Str) (sc : Scope) : Prop where
  kind : sc.kind = .function
  co : sc.isCoroutine = false
  gen : sc.isGenerator = false
  nd : N.Nodup
  pre : N.take P.length = P
  par : ∀ x ∈ P, sc.names.lookup x = some .local ∨ sc.names.lookup x = some .cell
  nofree : ∀ y ∈ sc.names, y.2 ≠ .free
theorem bindL_out {kindOf : Str → Option NameKind} {x : Str} : ∀ {binds : List (Str × Value)} {m : Str → Option Value}, (∀ v, (x, v) ∉ binds) → bindL kindOf binds m x = m x
  | [], _, _ => rfl
  | (n, v) :: r, m, h => by
    unfold bindL
    rw [bindL_out fun w hw => h w (List.mem_cons_of_mem _ hw)]
    split
    · have : x ≠ n := by rintro rfl; exact h v List.mem_cons_self
      simp [this]
    · rfl
theorem bindC_out {kindOf : Str → Option NameKind} {x : Str} : ∀ {binds : List (Str × Value)} {m : Str → Option Value}, (∀ v, (x, v) ∉ binds) → bindC kindOf binds m x = m x
  | [], _, _ => rfl
  | (n, v) :: r, m, h => by
    unfold bindC
    rw [bindC_out fun w hw => h w (List.mem_cons_of_mem _ hw)]
    split
    · rfl
    · have : x ≠ n := by rintro rfl; exact h v List.mem_cons_self
      simp [this]
theorem bindL_get {kindOf : Str → Option NameKind} {x : Str} {v : Value} : ∀ {P : List Str} {vs : List Value} {i : Nat} {m : Str → Option Value}, P.Nodup → P[i]? = some x → vs[i]? = some v → kindOf x = some .local →
    bindL kindOf (P.zip vs) m x = some v
  | [], _, _, _, _, h, _, _ => by simp at h
  | _ :: _, [], _, _, _, _, h, _ => by simp at h
  | p :: P, w :: vs, 0, m, nd, h1, h2, hk => by
    simp at h1 h2; subst h1; subst h2
    show bindL kindOf ((p, w) :: P.zip vs) m p = _
    unfold bindL
    rw [bindL_out fun v hv => (List.nodup_cons.mp nd).1 (List.of_mem_zip hv).1, if_pos hk]
    simp
  | p :: P, w :: vs, i + 1, m, nd, h1, h2, hk => by
    show bindL kindOf ((p, w) :: P.zip vs) m x = _
    unfold bindL
    exact bindL_get (i := i) (List.nodup_cons.mp nd).2 (by simpa using h1) (by simpa using h2) hk
theorem bindC_get {kindOf : Str → Option NameKind} {x : Str} {v : Value} : ∀ {P : List Str} {vs : List Value} {i : Nat} {m : Str → Option Value}, P.Nodup → P[i]? = some x → vs[i]? = some v → kindOf x ≠ some .local →
    bindC kindOf (P.zip vs) m x = some v
  | [], _, _, _, _, h, _, _ => by simp at h
  | _ :: _, [], _, _, _, _, h, _ => by simp at h
  | p :: P, w :: vs, 0, m, nd, h1, h2, hk => by
    simp at h1 h2; subst h1; subst h2
    show bindC kindOf ((p, w) :: P.zip vs) m p = _
    unfold bindC
    rw [bindC_out fun v hv => (List.nodup_cons.mp nd).1 (List.of_mem_zip hv).1, if_neg hk]
    simp
  | p :: P, w :: vs, i + 1, m, nd, h1, h2, hk => by
    show bindC kindOf ((p, w) :: P.zip vs) m x = _
    unfold bindC
    exact bindC_get (i := i) (List.nodup_cons.mp nd).2 (by simpa using h1) (by simpa using h2) hk
def start (N : List Str) (vs : List V) : St := vs.map some ++ List.replicate (N.length - vs.length) none
def cxOf (CX : CXT) (P : Program) (w : World) (K : PySem.W.Frag) (mg : Str → Option Value) (base : Heap) (N : List Str) (qual : Str) (scope : Scope) (f : Addr) (cd : Value) (A : Around) (outer : List Env) (s : Shared) (H : Hp) (E : XK) : Cx where
  prog := P
  w := w
  K := K
  mg := mg
  base := base
  A := A.deeper (envOfC qual scope s.heap.objs.size f cd)
  N := N
  s₀ := s
  H₀ := H
  env := envOfC qual scope s.heap.objs.size f cd
  outer := outer
  stack := envOfC qual scope s.heap.objs.size f cd :: outer
  ex := []
  calm := true
  fn := fun _ => true
  pn := []
  xe := fun e s' => wpAny (model P w) (A.deeper (envOfC qual scope s.heap.objs.size f cd)) (leaving (envOfC qual scope s.heap.objs.size f cd) e) (fun _ s'' => CX outer H s E e s'') (fun e' s'' => CX outer H s E e' s'') s'
theorem cell_has {sc : Scope} {n : Nat} {x : Str} (h : sc.names.lookup x = some .cell) : ∃ c, (cellsFrom n sc.names []).lookup x = some c := by
  have q := PySem.W.cellsFrom_some sc.names n [] (.inl h)
  exact Option.isSome_iff_exists.mp q
theorem inv_start {CX : CXT} {P : Program} {w : World} {K : PySem.W.Frag} {mg : Str → Option Value} {base : Heap} {N ps : List Str} {qual : Str} {scope : Scope} {f : Addr} {cd : Value} {A : Around} {outer : List Env} {s s1 : Shared} {H : Hp} {E : XK} {us : List Value} {vs : List V}
    (S : FnScope N ps scope) (hd : A.handled = none) (e0 : Env0 P w K mg base A outer s H) (hl : vs.length = ps.length) (r : Vals vs us)
    (x : InCallC s s.heap.objs.size (bindL (envOfC qual scope s.heap.objs.size f cd).kindOf (ps.zip us) fun _ => none) (cellsFrom (s.heap.objs.size + 1) scope.names []) (bindC (envOfC qual scope s.heap.objs.size f cd).kindOf (ps.zip us) fun _ => none) s1) :
    Inv (cxOf CX P w K mg base N qual scope f cd A outer s H E) [] (start N vs) H s1 := by
  have hpl : ps.length ≤ N.length := by have := congrArg List.length S.pre; rw [List.length_take] at this; omega
  obtain ⟨h1, tk, rfl, hk⟩ := x.done
  have noA : ∀ b : Addr, b ∉ (cxOf CX P w K mg base N qual scope f cd A outer s H E).ex := fun b z => absurd (show b ∈ ([] : List Addr) from z) (by simp)
  refine ⟨⟨e0.mod, S.kind, rfl, rfl, Nat.le_refl _, fun y z c h1 h2 => ?_, fun y hy => ?_, fun y c _ h => ?_, fun _ => hd, Around.frames_deeper e0.frames, .inr ⟨rfl, rfl⟩, fun b z => absurd z (noA b), e0.bs, e0.bsz, fun b _ _ => noA b, fun b z => absurd z (noA b), e0.funs, e0.frf⟩,
    rfl, e0.bare, Un.kept hk, ⟨_, x.toInCall.ns, fun i y v h1 h2 h3 => ?_⟩, fun y c h => ⟨_, x.cell y c h⟩, e0.hok.fresh (Nat.le_refl _), fun y c h => ?_, fun p hp => absurd (show p ∈ ([] : List (Addr × Obj)) from hp) (by simp), e0.hok.kept hk, ?_⟩
  · exact name_of_addr x.apart (PySem.mem_of_lookup h1) (PySem.mem_of_lookup h2)
  · have hy : scope.names.lookup y = some .cell ∨ scope.names.lookup y = some .free := hy
    rcases hy with hy | hy
    · exact cell_has hy
    · exact absurd rfl (S.nofree _ (PySem.mem_of_lookup hy))
  · exact Nat.le_of_lt (x.above y c (PySem.mem_of_lookup h))
  · have hi : i < vs.length := by
      unfold start at h2
      by_cases hi : i < vs.length
      · exact hi
      · rw [List.getElem?_append_right (by simpa using hi)] at h2
        rw [List.getElem?_replicate] at h2
        split at h2 <;> cases h2
    have ha : vs[i]? = some v := by
      unfold start at h2
      rw [List.getElem?_append_left (by simpa using hi), List.getElem?_map] at h2
      cases e : vs[i]? with
      | none => rw [e] at h2; cases h2
      | some a => rw [e] at h2; cases h2; rfl
    obtain ⟨u, hu, rv⟩ := r.get ha
    have hp : ps[i]? = some y := by
      rw [← S.pre, List.getElem?_take_of_lt (by omega)]; exact h1
    have ndP : ps.Nodup := by rw [← S.pre]; exact S.nd.sublist (List.take_sublist _ _)
    refine ⟨u, rv, ?_⟩
    rcases S.par y (List.mem_of_getElem? hp) with k | k
    · exact .inl ⟨k, bindL_get ndP hp hu k⟩
    · obtain ⟨c, e⟩ := cell_has (n := s.heap.objs.size + 1) k
      refine .inr ⟨.inl k, c, e, ?_⟩
      have q := x.cell y c e
      rw [bindC_get ndP hp hu (by show scope.names.lookup y ≠ _; rw [k]; decide)] at q
      exact q
  · exact e0.hok.fresh (Nat.le_of_lt (x.above y c (PySem.mem_of_lookup h)))
  · unfold start
    show _ = N.length
    rw [List.length_append, List.length_map, List.length_replicate]
    omega
theorem fn_of {CX : CXT} {P : Program} {w : World} {K : PySem.W.Frag} {mg : Str → Option Value} {base : Heap} {k : Nat} {f : Addr} {name qual : Str} {params : Arguments} {body : List Stmt} {scope : Scope} {dV kV doc pm cdv ct oc : Value} {an od : Option Addr}
    {osl : Array (Option Value)} {N ps : List Str} {sp : Sp} (lk : K.lookup f = some ⟨oc, od, .func (PySem.W.fnOf name qual params body scope dV kV doc pm an cdv ct), osl⟩) (hcd : PySem.W.codeIn K cdv qual = true) (S : FnScope N ps scope)
    (len : ∀ vs H Q E, sp vs H Q E → vs.length = ps.length)
    (hbody : ∀ (A : Around) (outer : List Env) (s : Shared) (H : Hp) (vs : List V) (Q : VK) (E : XK), Room k (A.deeper (envOfC qual scope s.heap.objs.size f cdv)) → sp vs H Q E →
      ∃ t, PSs (cxOf CX P w K mg base N qual scope f cdv A outer s H E) body t ∧ t { nx := fun _ H' => Q .non H', rt := Q } (start N vs) H) :
    FnOk P w K mg base CX (k + 1) f (PySem.W.fnOf name qual params body scope dV kV doc pm an cdv ct) ps sp := by
  refine ⟨len, fun A outer s H args us vs Q E hr e0 hb r hsp => ?_⟩
  have hl := len _ _ _ _ hsp
  have KX : K.In s.heap := e0.mod.kin.keeps fun b o e => (e0.bs b o e).1
  have lim : s.heap.NoLimit := e0.mod.nolimit.keeps fun b o e => (e0.bs b o e).1
  have hkind : ∀ y ∈ ps.zip us, scope.names.lookup y.1 = some .local ∨ (scope.names.lookup y.1 = some .cell ∧ ((cellsFrom (s.heap.objs.size + 1) scope.names []).lookup y.1).isSome = true) := fun ⟨n, v⟩ hy => by
    rcases S.par n (List.of_mem_zip hy).1 with q | q
    · exact .inl q
    · exact .inr ⟨q, PySem.W.cellsFrom_some _ _ _ (.inl q)⟩
  refine codeAny_call_function hr.depth (KX _ _ lk) rfl S.co S.gen rfl (PySem.W.codeRec_of KX hcd) (hb _ _ _ _ ?_)
  refine wpAny_newFunctionEnv_cells S.kind hkind fun env he s1 x => ?_
  subst he
  refine ⟨lim.keeps x.toInCall.keep, codeAny_func ?_⟩
  obtain ⟨t, ht, hq⟩ := hbody A outer s H vs Q E (hr.deeper _) hsp
  have I : Inv (cxOf CX P w K mg base N qual scope f cdv A outer s H E) [] (start N vs) H s1 := inv_start S hr.hd e0 hl r x
  refine wpAny_mono (ht [] s1 (start N vs) H _ I hq) (fun fl s' hs => ?_) fun e s' hs => hs
  have fin : ∀ {σ' : St} {H' : Hp} {v : V} {u : Value}, Inv (cxOf CX P w K mg base N qual scope f cdv A outer s H E) [] σ' H' s' → RelV v u → Q v H' → CE outer P w H s Q u s' :=
    fun {σ' H' v u} J rv q => ⟨v, H', J.os, J.bare, J.base, J.hok, rv, q⟩
  cases fl with
  | ret u =>
    obtain ⟨v, σ', H', J, rv, q⟩ := hs
    exact fin J rv q
  | next =>
    obtain ⟨σ', H', J, q⟩ := hs
    exact fin (v := V.non) (u := Value.none) J rfl q
  | brk =>
    obtain ⟨_, _, _, q⟩ := hs
    exact False.elim q
  | cont =>
    obtain ⟨_, _, _, q⟩ := hs
    exact False.elim q
end L2
namespace L2
open PySem PySem.Spec PyProof.Rows
section
variable {X : Cx} {x : Str} {p pos : Pos} {e : Expr} {es : List Expr} {t : TA} {id T : String} {r : List V → Hp → VK → Prop}
def tCB (r : List V → Hp → VK → Prop) (t : TA) : TE := fun σ H Q => t σ H fun vs H1 => r vs H1 Q
theorem pe_callB (hc : CallR X (.builtin id) r) (hg : Gl X x) (hm : X.mg x = none) (hv : bootBuiltins x = some (.builtin id)) (ha : PA X (e :: es) t) (hn : x ≠ "__name__" := by decide) (hdb : (x == ("__debug__" : Str)) = false := by decide)
    (he : starEach (e :: es) X.env = (false, eval e X.env) :: starEach es X.env := by rfl) (hpl : (backTo pos (starEach es X.env)).any (·.1) = false := by rfl) : PE X (.Call (.Name x p) (e :: es) [] pos) (tCB r t) := by
  intro pins s σ H Q I h
  refine wpAny_Call_Name_kw (ld_blt I hg hm hv ?_ hn hdb)
  exact PyProof.Rows.callWith_builtin1 (thn (ha pos pins s σ H _ I h) fun us s1 ⟨vs, H1, I1, r1, q1⟩ => hc pins s1 σ H1 vs us Q I1 r1 q1) he hpl
theorem pe_callTy (hc : CallR X (.type T) r) (hg : Gl X x) (hm : X.mg x = none) (hv : bootBuiltins x = some (.type T)) (ha : PA X (e :: es) t) (hn : x ≠ "__name__" := by decide) (hdb : (x == ("__debug__" : Str)) = false := by decide)
    (he : starEach (e :: es) X.env = (false, eval e X.env) :: starEach es X.env := by rfl) (hpl : (backTo pos (starEach es X.env)).any (·.1) = false := by rfl) : PE X (.Call (.Name x p) (e :: es) [] pos) (tCB r t) := by
  intro pins s σ H Q I h
  refine wpAny_Call_Name_kw (ld_blt I hg hm hv ?_ hn hdb)
  exact PyProof.Rows.callWith_type1 (thn (ha pos pins s σ H _ I h) fun us s1 ⟨vs, H1, I1, r1, q1⟩ => hc pins s1 σ H1 vs us Q I1 r1 q1) he hpl
end
end L2
namespace HT
open PySem PyProof.Rows
section
open PySem.SeqAt
open PySem.AutoSeq1 (wpAny_loadPart')
open PySem.MeetsSeq PySem.MeetsSeq2 PySem.MeetsSeq3
end
section
variable {prog : Program} {w : World} {A : Around} {E : Value → Shared → Prop} {s : Shared}
def sIx (n d : Nat) : Option Int → Nat
  | none => d
  | some v => if v < 0 then (v + (n : Int)).toNat else min v.toNat n
end
end HT
namespace L2
open PySem PySem.Spec PyProof.Rows
abbrev TO := St → Hp → (Option Int → Hp → Prop) → Prop
def tNoPart : TO := fun _ H Q => Q none H
def tPart (t : TE) : TO := fun σ H Q => t σ H fun x H1 => ∃ i, x = .int i ∧ Q (some i) H1
section
variable {X : Cx} {e : Expr} {te : TE} {lo hi : Option Expr} {tl th : TO} {pos p2 : Pos}
def tSl (r : V → Option Int → Option Int → Hp → VK → Prop) (te : TE) (tl th : TO) : TE := fun σ H Q => te σ H fun x H1 => tl σ H1 fun l H2 => th σ H2 fun u H3 => r x l u H3 Q
def cutV (xs : List V) (lo hi : Option Int) : List V := (xs.drop (HT.sIx xs.length 0 lo)).take (HT.sIx xs.length xs.length hi - HT.sIx xs.length 0 lo)
end
end L2
namespace L2
open PySem PySem.Spec PyProof.Rows
def ixN (n : Nat) (i : Int) : Option Nat := if 0 ≤ i then (if i < n then some i.toNat else none) else if -(n : Int) ≤ i then some (i + n).toNat else none
def atI {α : Type} (xs : List α) (i : Int) : Option α := (ixN xs.length i).bind fun j => xs[j]?
theorem ixN_seq {n : Nat} {i : Int} {j : Nat} (h : ixN n i = some j) : seqIndex? i n = some j ∧ j < n ∧ -(n : Int) ≤ i ∧ i < n := by
  unfold ixN at h
  by_cases h0 : 0 ≤ i
  · rw [if_pos h0] at h
    by_cases h1 : i < n
    · rw [if_pos h1] at h
      have e : i.toNat = j := Option.some.inj h
      exact ⟨by rw [seqIndex_of h0 h1, e], by omega, by omega, h1⟩
    · rw [if_neg h1] at h; cases h
  · rw [if_neg h0] at h
    by_cases h1 : -(n : Int) ≤ i
    · rw [if_pos h1] at h
      have e : (i + n).toNat = j := Option.some.inj h
      exact ⟨by rw [seqIndex_neg (by omega) h1, e], by omega, h1, by omega⟩
    · rw [if_neg h1] at h; cases h
theorem atI_get {α : Type} {xs : List α} {i : Int} {v : α} (h : atI xs i = some v) : ∃ j, seqIndex? i xs.length = some j ∧ xs[j]? = some v ∧ j < xs.length ∧ -(xs.length : Int) ≤ i ∧ i < xs.length := by
  unfold atI at h
  cases e : ixN xs.length i with
  | none => rw [e] at h; cases h
  | some j =>
    rw [e] at h
    obtain ⟨h1, h2, h3, h4⟩ := ixN_seq e
    exact ⟨j, h1, h, h2, h3, h4⟩
theorem atI_nat {α : Type} {xs : List α} {j : Nat} {v : α} (h : xs[j]? = some v) : atI xs (j : Int) = some v := by
  have hj : j < xs.length := (List.getElem?_eq_some_iff.mp h).1
  have e : ixN xs.length (j : Int) = some j := by
    unfold ixN
    rw [if_pos (by omega), if_pos (by omega)]; simp
  unfold atI; rw [e]; exact h
def PlainIx (b : Expr) : Prop := ∀ o i, subscripted b false o i = operate [o, i] (getItem o i)
def IxR (X : Cx) (r : R2) : Prop :=
  ∀ (value slice : Expr) (pins : List (Addr × Obj)) (s : Shared) (σ : St) (H : Hp) (x y : V) (v u : Value) (Q : VK), Inv X pins σ H s → RelV x v → RelV y u → r x y H Q →
    subscripted slice false v u = operate [v, u] (getItem v u) → wpAny (model X.prog X.w) X.A (subscriptTail value slice v u) (EP X pins σ Q) X.xe s
def MtR (X : Cx) (id : String) (r : V → List V → Hp → VK → Prop) : Prop :=
  ∀ (pins : List (Addr × Obj)) (s : Shared) (σ : St) (H : Hp) (x : V) (xs : List V) (v : Value) (us : List Value) (Q : VK), Inv X pins σ H s → RelV x v → Vals xs us → r x xs H Q →
    wpAny (model X.prog X.w) X.A (call (.builtin id) (v :: us)) (EP X pins σ Q) X.xe s
section
variable {X : Cx} {a b : Expr} {ta tb : TE} {pos : Pos}
theorem pe_ix {r : R2} (hr : IxR X r) (ha : PE X a ta) (hb : PE X b tb) (hs : PlainIx b) : PE X (.Subscript a b pos) (tOp r ta tb) := by
  intro pins s σ H Q I h
  exact Subscript_ (binT ha hb I h fun v u s2 x y H2 I2 rx ry q => hr a b pins s2 σ H2 x y v u Q I2 rx ry q (hs _ _))
def rIxL (K : PySem.W.Frag) : R2 := fun x y H Q => ∃ p xs i v, x = .ref p ∧ y = .int i ∧ SqL K H p xs ∧ atI xs i = some v ∧ Q v H
def rIxT (K : PySem.W.Frag) : R2 := fun x y H Q => ∃ p xs i v, x = .ref p ∧ y = .int i ∧ SqT K H p xs ∧ atI xs i = some v ∧ Q v H
theorem ix_list : IxR X (rIxL X.K) := by
  intro value slice pins s σ H x y v u Q I rx ry h hs
  obtain ⟨p, xs, i, z, rfl, rfl, hq, he, q⟩ := h
  cases rx
  obtain ⟨t, rfl⟩ := ry
  obtain ⟨its, r, pl, hz⟩ := I.list hq
  obtain ⟨j, h1, h2, h3, h4, h5⟩ := atI_get he
  obtain ⟨w, ew, rw'⟩ := r.get h2
  have hl := r.length
  have hn := line63
  have fin : EP X pins σ Q w s := ⟨z, H, I, rw', q⟩
  by_cases h0 : 0 ≤ i
  · have hj : i.toNat = j := by
      rw [seqIndex_of h0 h5] at h1
      exact Option.some.inj h1
    exact item_listR pl.isList h0 (by omega) (by rw [hj]; simpa using ew) fin hs
  · have hj : (i + (its.toArray.size : Int)).toNat = j := by
      rw [seqIndex_neg (by omega) h4] at h1
      rw [List.size_toArray, ← hl]
      exact Option.some.inj h1
    exact subscriptTail_builtinR (x := w) pl.isList.typeIs slot_list_getitem.lookup
      (wpAny_getItem_list_neg (Q := fun r s' => r = w ∧ EP X pins σ Q r s') pl.isList (by omega) (by rw [List.size_toArray] <;> omega) (by omega) (by rw [hj]; simpa using ew) ⟨rfl, fin⟩) hs
theorem ix_tup : IxR X (rIxT X.K) := by
  intro value slice pins s σ H x y v u Q I rx ry h hs
  obtain ⟨p, xs, i, z, rfl, rfl, hq, he, q⟩ := h
  cases rx
  obtain ⟨t, rfl⟩ := ry
  obtain ⟨its, r, pl, hz⟩ := I.tuple hq
  obtain ⟨j, h1, h2, h3, h4, h5⟩ := atI_get he
  obtain ⟨w, ew, rw'⟩ := r.get h2
  have hl := r.length
  have hn := line63
  have fin : EP X pins σ Q w s := ⟨z, H, I, rw', q⟩
  exact subscriptTail_builtinR (x := w) pl.typeIs slot_tuple_getitem.lookup
    (getItem_tuple (j := j) (Q := fun r s' => r = w ∧ EP X pins σ Q r s') pl (by omega) (by omega) (by rw [List.size_toArray, ← hl]; exact h1) (by simpa using ew) ⟨rfl, fin⟩) hs
def rSetL : V → V → V → Hp → (Hp → Prop) → Prop := fun o i v H Q => ∃ p xs k j, o = .ref p ∧ i = .int k ∧ H p = some (.lst xs) ∧ ixN xs.length k = some j ∧ Q (upd H p (.lst (xs.set j v)))
def rSlL (K : PySem.W.Frag) : V → Option Int → Option Int → Hp → VK → Prop := fun x lo hi H Q => ∃ a xs, x = .ref a ∧ SqL K H a xs ∧ ∀ p, H p = none → Q (.ref p) (upd H p (.lst (cutV xs lo hi)))
def flatV : V → Bool
  | .non => true
  | .bl _ => true
  | .int _ => true
  | .str _ => true
  | _ => false
def eqV : V → V → Bool
  | .non, .non => true
  | .bl a, .bl b => a == b
  | .bl a, .int b => (if a then 1 else 0) == b
  | .int a, .bl b => a == (if b then 1 else 0)
  | .int a, .int b => a == b
  | .str a, .str b => a == b
  | _, _ => false
theorem eqAt_V {A : Around} {s : Shared} {y x : V} {u v : Value} (ry : RelV y u) (rx : RelV x v) (fy : flatV y = true) (fx : flatV x = true) : SeqAt.EqAt A s u v (eqV y x) := by
  cases y with
  | non =>
    cases ry
    cases x with
    | non => cases rx; exact SeqAt.EqAt.same _
    | bl b => cases rx; exact SeqAt.EqAt.none_bool b
    | int b => obtain ⟨t, rfl⟩ := rx; exact SeqAt.EqAt.none_int b t
    | str b => obtain ⟨t, rfl⟩ := rx; exact SeqAt.EqAt.none_str b t
    | _ => exact absurd (show false = true from fx) Bool.false_ne_true
  | bl a =>
    cases ry
    cases x with
    | non => cases rx; exact SeqAt.EqAt.bool_none a
    | bl b => cases rx; exact SeqAt.EqAt.bool_bool a b
    | int b => obtain ⟨t, rfl⟩ := rx; exact SeqAt.EqAt.bool_int a b t
    | str b => obtain ⟨t, rfl⟩ := rx; exact SeqAt.EqAt.bool_str a b t
    | _ => exact absurd (show false = true from fx) Bool.false_ne_true
  | int a =>
    obtain ⟨t', rfl⟩ := ry
    cases x with
    | non => cases rx; exact SeqAt.EqAt.int_none a t'
    | bl b => cases rx; exact SeqAt.EqAt.int_bool a t' b
    | int b => obtain ⟨t, rfl⟩ := rx; exact SeqAt.EqAt.int_int a t' b t
    | str b => obtain ⟨t, rfl⟩ := rx; exact SeqAt.EqAt.int_str a t' b t
    | _ => exact absurd (show false = true from fx) Bool.false_ne_true
  | str a =>
    obtain ⟨t', rfl⟩ := ry
    cases x with
    | non => cases rx; exact SeqAt.EqAt.str_none a t'
    | bl b => cases rx; exact SeqAt.EqAt.str_bool a t' b
    | int b => obtain ⟨t, rfl⟩ := rx; exact SeqAt.EqAt.str_int a t' b t
    | str b => obtain ⟨t, rfl⟩ := rx; exact SeqAt.EqAt.str_str a t' b t
    | _ => exact absurd (show false = true from fx) Bool.false_ne_true
  | _ => exact absurd (show false = true from fy) Bool.false_ne_true
theorem call_len_seq : CallR X (.builtin "len") (fun xs H Q => ∃ p ys, xs = [.ref p] ∧ (SqL X.K H p ys ∨ SqT X.K H p ys) ∧ Q (.int ys.length) H) := by
  intro pins s σ H xs us Q I r h
  obtain ⟨p, ys, rfl, hq, q⟩ := h
  obtain ⟨u, rfl, rx⟩ := vals1 r
  cases rx
  have hn := line63
  rcases hq with hq | hq
  · obtain ⟨its, r', pl, hz⟩ := I.list hq
    have hlen := r'.length
    exact Calls.call_len_list pl.isList (by simp only [List.size_toArray] <;> omega) ⟨.int ys.length, H, I.tok _, ⟨s.toks + 1, by rw [List.size_toArray, hlen]⟩, q⟩
  · obtain ⟨its, r', pl, hz⟩ := I.tuple hq
    have hlen := r'.length
    exact len_tuple pl (by simp only [List.size_toArray] <;> omega) ⟨.int ys.length, H, I.tok _, ⟨s.toks + 1, by rw [List.size_toArray, hlen]⟩, q⟩
theorem call_list_of : CallR X (.type "list") (fun xs H Q => ∃ p ys, xs = [.ref p] ∧ (SqL X.K H p ys ∨ SqT X.K H p ys) ∧ ∀ l, H l = none → Q (.ref l) (upd H l (.lst ys))) := by
  intro pins s σ H xs us Q I r h
  obtain ⟨p, ys, rfl, hq, q⟩ := h
  obtain ⟨u, rfl, rx⟩ := vals1 r
  cases rx
  have fin : ∀ (its : List Value), Vals ys its → ys.length ≤ sizeLine → ∀ (h' : Heap) (c' : Nat), (∀ b o', s.heap.get? b = some o' → h'.get? b = some o') →
      h'.get? s.heap.objs.size = some { cls := .type "list", dict := none, data := .seq its.toArray c', slots := #[] } → EP X pins σ Q (.ref s.heap.objs.size) { s with heap := h' } := fun its r' hz h' c' kp e =>
    ⟨.ref s.heap.objs.size, _, I.laid (t' := s.toks) kp (Nat.le_refl _) (show ObjOk X.prog X.w _ h' _ (.lst ys) from ⟨hz, its, c', r', e⟩), rfl, q _ (I.hok.fresh (Nat.le_refl _))⟩
  rcases hq with hq | hq
  · obtain ⟨its, r', pl, hz⟩ := I.list hq
    have hlen := r'.length
    obtain ⟨o, ho, hc, n, hd⟩ := pl.isList
    exact call_list_seq p (.inl rfl) ho hc hd (fun h' c' kp e => fin its r' hz h' c' kp e) (by simp only [List.size_toArray] <;> omega)
  · obtain ⟨its, r', pl, hz⟩ := I.tuple hq
    have hlen := r'.length
    obtain ⟨o, ho, hc, n, hd⟩ := pl
    exact call_list_seq p (.inr rfl) ho hc hd (fun h' c' kp e => fin its r' hz h' c' kp e) (by simp only [List.size_toArray] <;> omega)
def tyV (K : PySem.W.Frag) (T : String) (x : V) (H : Hp) : Prop := match x with
  | .str _ => T = "str"
  | .int _ => T = "int"
  | .ref p => (T = "list" ∧ ∃ xs, SqL K H p xs) ∨ (T = "tuple" ∧ ∃ o, K.lookup p = some o ∧ o.cls = .type "tuple" ∧ o.dict = none) ∨
      (T = "dict" ∧ ((∃ kvs, H p = some (.dK kvs)) ∨ ∃ kvs, H p = some (.dT kvs))) ∨ (T = "set" ∧ ∃ S n, H p = some (.set S n))
  | _ => False
theorem tyV_is {pins : List (Addr × Obj)} {σ : St} {H : Hp} {s : Shared} {T : String} {x : V} {v : Value} (I : Inv X pins σ H s) (r : RelV x v) (ty : tyV X.K T x H) :
    s.TypeIs v T ∧ ∀ a, v = .ref a → ∃ ob, s.heap.get? a = some ob ∧ ob.dict = none := by
  cases x with
  | str z =>
    obtain ⟨t, rfl⟩ := r
    cases (show T = "str" from ty)
    exact ⟨typeIs_str s z t, fun _ e => nomatch e⟩
  | int i =>
    obtain ⟨t, rfl⟩ := r
    cases (show T = "int" from ty)
    exact ⟨typeIs_int s i t, fun _ e => nomatch e⟩
  | ref p =>
    cases r
    rcases ty with ⟨rfl, xs, hq⟩ | ⟨rfl, o, hk, hc, hd⟩ | ⟨rfl, hk⟩ | ⟨rfl, S, n, hk⟩
    · obtain ⟨its, _, pl, _⟩ := I.list hq
      refine ⟨pl.isList.typeIs, fun a e => ?_⟩
      cases e
      obtain ⟨o, n, e, c, hd, _⟩ := pl
      exact ⟨o, e, hd⟩
    · refine ⟨⟨o, I.kIn p o hk, hc⟩, fun a e => ?_⟩
      cases e
      exact ⟨o, I.kIn _ o hk, hd⟩
    · have z : ∃ o, s.heap.get? p = some o ∧ o.ExactDict := by
        rcases hk with ⟨kvs, hk⟩ | ⟨kvs, hk⟩
        · obtain ⟨_, _, _, _, o, _, _, e, ex, _⟩ := I.hok p _ hk
          exact ⟨o, e, ex⟩
        · obtain ⟨_, _, _, _, o, _, _, e, ex, _⟩ := I.hok p _ hk
          exact ⟨o, e, ex⟩
      obtain ⟨o, e, ex⟩ := z
      refine ⟨⟨o, e, ex.1⟩, fun a e2 => ?_⟩
      cases e2
      exact ⟨o, e, ex.2.1⟩
    · obtain ⟨o, _, _, _, e, ex, _⟩ := I.hok p _ hk
      refine ⟨⟨o, e, ex.1⟩, fun a e2 => ?_⟩
      cases e2
      exact ⟨o, e, ex.2.1⟩
  | _ => exact False.elim ty
def tBM0 (K : PySem.W.Frag) (T : String) (r : V → List V → Hp → VK → Prop) (to : TE) : TE := fun σ H Q => to σ H fun x H1 => tyV K T x H1 ∧ r x [] H1 Q
def tBM (K : PySem.W.Frag) (T : String) (r : V → List V → Hp → VK → Prop) (to : TE) (t : TA) : TE := fun σ H Q => to σ H fun x H1 => tyV K T x H1 ∧ t σ H1 fun xs H2 => r x xs H2 Q
variable {o e : Expr} {es : List Expr} {to : TE} {t : TA} {name : Str} {apos cpos : Pos} {T id : String} {r : V → List V → Hp → VK → Prop}
theorem pe_bm0 (pa : PlainAttrs T) (slot : Slot T name id) (hty : typeOf (.builtin id) = pure (.type "method_descriptor")) (hm : MtR X id r) (ho : PE X o to)
    (hbase : attributeBase o name X.env (eval o X.env) = eval o X.env := by rfl) (hline : (apos.endLine == cpos.line) = true := by rfl) : PE X (.Call (.Attribute o name apos) [] [] cpos) (tBM0 X.K T r to) := by
  intro pins s σ H Q I h
  refine wpAny_Call_method0_late hbase hline (thn (ho pins s σ H _ I h) fun v s1 ⟨x, H1, I1, r1, ty, q1⟩ => ?_)
  obtain ⟨h1, h2⟩ := tyV_is I1 r1 ty
  exact ⟨T, id, pa, slot, hty, h1, h2, Calls.callWith_builtin rfl (PySem.evalArgs_none (hm pins s1 σ H1 x [] v [] Q I1 r1 .nil q1))⟩
theorem pe_bm (pa : PlainAttrs T) (slot : Slot T name id) (hty : typeOf (.builtin id) = pure (.type "method_descriptor")) (hm : MtR X id r) (ho : PE X o to) (ha : PA X (e :: es) t)
    (hbase : attributeBase o name X.env (eval o X.env) = eval o X.env := by rfl)
    (hfew : ((backTo cpos (starEach (e :: es) X.env)).all (fun x => !x.1) && (backToKw cpos (keywordEach [] X.env)).all (fun x => x.1.isSome)
      && decide ((e :: es).length + ([] : List Keyword).length + (if ([] : List Keyword).isEmpty then 0 else 1) < 30)) = true := by rfl)
    (hline : (apos.endLine == cpos.line) = true := by rfl) (hs : starEach (e :: es) X.env = (false, eval e X.env) :: starEach es X.env := by rfl) (hplain : (backTo cpos (starEach es X.env)).any (·.1) = false := by rfl) :
    PE X (.Call (.Attribute o name apos) (e :: es) [] cpos) (tBM X.K T r to t) := by
  intro pins s σ H Q I h
  refine wpAny_Call_method_late hbase hfew hline rfl (thn (ho pins s σ H _ I h) fun v s1 ⟨x, H1, I1, r1, ty, q1⟩ => ?_)
  obtain ⟨h1, h2⟩ := tyV_is I1 r1 ty
  refine ⟨T, id, pa, slot, hty, h1, h2, ?_⟩
  have hA := ha cpos pins s1 σ H1 _ I1 q1
  rw [hs] at hA ⊢
  refine Calls.callWith_builtin (by show (false || (backTo cpos (starEach es X.env)).any (·.1)) = false; rw [hplain] <;> rfl) (Calls.evalArgs_plain ?_)
  exact thn hA fun us s2 ⟨vs, H2, I2, r2, q2⟩ => hm pins s2 σ H2 x vs v us Q I2 r1 r2 q2
end
end L2
namespace L2
open PySem PySem.Spec PyProof.Rows
def MtM (X : Cx) (id : String) (r : V → List V → Hp → VK → Prop) : Prop :=
  ∀ (pins : List (Addr × Obj)) (s : Shared) (σ : St) (H : Hp) (x : V) (xs : List V) (v : Value) (us : List Value) (Q : VK), Inv X pins σ H s → RelV x v → Vals xs us → r x xs H Q →
    wpAny (model X.prog X.w) X.A (call (.builtin id) (v :: us)) (EP X pins σ Q) X.xe s
theorem Vals.one : ∀ {x : V} {us : List Value}, Vals [x] us → ∃ u, us = [u] ∧ RelV x u
  | _, _, .cons r .nil => ⟨_, rfl, r⟩
theorem Vals.two : ∀ {x y : V} {us : List Value}, Vals [x, y] us → ∃ u v, us = [u, v] ∧ RelV x u ∧ RelV y v
  | _, _, _, .cons r (.cons q .nil) => ⟨_, _, rfl, r, q⟩
theorem Vals.rep {xs : List V} {us : List Value} (h : Vals xs us) : ∀ k : Nat, Vals (List.replicate k xs).flatten (List.replicate k us).flatten
  | 0 => .nil
  | k + 1 => by
    rw [List.replicate_succ, List.replicate_succ, List.flatten_cons, List.flatten_cons]
    exact Vals.append h (Vals.rep h k)
theorem foldl_rep (its : List Value) : ∀ (k : Nat) (acc : List Value),
    List.foldl (fun x1 x2 => x1 ++ x2) acc.toArray (List.replicate k its.toArray) = (acc ++ (List.replicate k its).flatten).toArray
  | 0, acc => by simp
  | k + 1, acc => by
    have e : acc.toArray ++ its.toArray = (acc ++ its).toArray := by simp
    have e2 : (acc ++ its) ++ (List.replicate k its).flatten = acc ++ (List.replicate (k + 1) its).flatten := by
      rw [List.replicate_succ, List.flatten_cons, List.append_assoc]
    rw [← e2, ← foldl_rep its k (acc ++ its), ← e, List.replicate_succ, List.foldl_cons]
section
variable {X : Cx} {pins : List (Addr × Obj)} {σ : St} {H : Hp} {s : Shared} {l b : Addr} {xs ys zs : List V}
theorem Inv.lset {its its' : List Value} {n : Nat} {f : Array Value → Array Value} {t' : Nat} (I : Inv X pins σ H s) (hH : H l = some (.lst xs))
    (e : s.heap.get? l = some { cls := .type "list", data := .seq its.toArray n }) (hf : f its.toArray = its'.toArray) (hv : Vals ys its') (hz : ys.length ≤ sizeLine) :
    Inv X pins σ (upd H l (.lst ys)) { s with heap := s.heap.update l (Obj.mapSeq f), toks := t' } := by
  have q := PySem.IsL.update e f
  rw [hf] at q
  refine I.write (x := l) (e := l) (by rw [hH]; exact trivial) (.inl rfl) (fun b' u hb hu => (Heap.get?_update_other s.heap (Obj.mapSeq f) (Ne.symm hb)).trans hu) ⟨_, q⟩ ?_
  exact ⟨hz, its', _, hv, q⟩
theorem Inv.lnew {its : List Value} {t' : Nat} (I : Inv X pins σ H s) (hv : Vals ys its) (hz : ys.length ≤ sizeLine) :
    Inv X pins σ (upd H s.heap.objs.size (.lst ys)) { s with heap := s.heap.push { cls := .type "list", data := .seq its.toArray }, toks := t' } :=
  I.laid (fun _ _ q => Heap.get?_push_of_some _ q) (Nat.le_refl _) ⟨hz, its, 0, hv, Heap.get?_push_size _ rfl⟩
theorem Inv.fresh (I : Inv X pins σ H s) : H s.heap.objs.size = none := I.hok.fresh (Nat.le_refl _)
theorem Inv.lstM (I : Inv X pins σ H s) (hH : H l = some (.lst xs)) : xs.length ≤ sizeLine ∧ ∃ (its : List Value) (n : Nat), Vals xs its ∧ xs.length = its.length ∧ s.heap.get? l = some { cls := .type "list", data := .seq its.toArray n } := by
  obtain ⟨z, its, n, r, e⟩ := I.hok l _ hH
  exact ⟨z, its, n, r, r.length, e⟩
theorem notLongL {n : Nat} (h : n ≤ sizeLine) : Builtin.List.listTooLong n = false := by
  unfold Builtin.List.listTooLong
  exact decide_eq_false (by omega)
end
section
variable {X : Cx}
def rAppend : V → List V → Hp → VK → Prop := fun x vs H Q => ∃ l xs y, x = .ref l ∧ vs = [y] ∧ H l = some (.lst xs) ∧ xs.length < sizeLine ∧ Q .non (upd H l (.lst (xs ++ [y])))
theorem mt_append : MtM X "list.append" rAppend := by
  intro pins s σ H x vs v us Q I rx rv h
  obtain ⟨l, xs, y, rfl, rfl, hH, hz, q⟩ := h
  cases rx
  obtain ⟨u, rfl, ru⟩ := rv.one
  obtain ⟨z, its, n, r, hl, e⟩ := I.lstM hH
  refine call_meets F.slot_list_append ⟨_, e, rfl⟩ F.entry_list_append (F.args_list_append_2 _ _) (PySem.list_append l its.toArray n u (by rw [List.size_toArray]; omega)) ⟨e, ?_⟩
  refine ⟨.non, _, I.lset (its' := its ++ [u]) hH e (by simp) (r.append (.cons ru .nil)) ?_, rfl, q⟩
  rw [List.length_append, List.length_singleton]
  omega
def rExtend : V → List V → Hp → VK → Prop := fun x vs H Q => ∃ l b xs zs, x = .ref l ∧ vs = [.ref b] ∧ H l = some (.lst xs) ∧ H b = some (.lst zs) ∧ xs.length + zs.length ≤ sizeLine ∧ Q .non (upd H l (.lst (xs ++ zs)))
theorem mt_extend : MtM X "list.extend" rExtend := by
  intro pins s σ H x vs v us Q I rx rv h
  obtain ⟨l, b, xs, zs, rfl, rfl, hH, hB, hz, q⟩ := h
  cases rx
  obtain ⟨u, rfl, ru⟩ := rv.one
  cases ru
  obtain ⟨z, its, n, r, hl, e⟩ := I.lstM hH
  obtain ⟨z2, its2, n2, r2, hl2, e2⟩ := I.lstM hB
  have hsz : its.toArray.size + its2.toArray.size ≤ sizeLine := by rw [List.size_toArray, List.size_toArray]; omega
  have hlong : ¬ (!its.toArray.isEmpty && Builtin.List.listTooLong (its.toArray.size + its2.toArray.size)) = true := by
    rw [notLongL hsz, Bool.and_false]
    exact Bool.false_ne_true
  refine call_meets F.slot_list_extend ⟨_, e, rfl⟩ F.entry_list_extend (F.args_list_extend_2 _ _)
    (AutoSeq1.list_extend_list_list_0 l its.toArray n b its2.toArray n2 hlong (by rw [List.size_toArray]; omega) (by omega)) ⟨e, e2, ?_⟩
  refine ⟨.non, _, I.lset (its' := its ++ its2) hH e (by simp) (r.append r2) ?_, rfl, q⟩
  rw [List.length_append]
  omega
def rPop : V → List V → Hp → VK → Prop := fun x vs H Q => ∃ l xs y, x = .ref l ∧ vs = [] ∧ H l = some (.lst xs) ∧ xs[xs.length - 1]? = some y ∧ Q y (upd H l (.lst xs.dropLast))
def rReverse : V → List V → Hp → VK → Prop := fun x vs H Q => ∃ l xs, x = .ref l ∧ vs = [] ∧ H l = some (.lst xs) ∧ Q .non (upd H l (.lst xs.reverse))
def rClear : V → List V → Hp → VK → Prop := fun x vs H Q => ∃ l xs, x = .ref l ∧ vs = [] ∧ H l = some (.lst xs) ∧ Q .non (upd H l (.lst []))
def rCat : R2 := fun x y H Q => ∃ l b xs zs, x = .ref l ∧ y = .ref b ∧ H l = some (.lst xs) ∧ H b = some (.lst zs) ∧ xs.length + zs.length ≤ sizeLine ∧ ∀ p, H p = none → Q (.ref p) (upd H p (.lst (xs ++ zs)))
theorem op_cat : OpR X (binaryOp .Add) rCat := by
  intro pins s σ H x y v u Q I rx ry h
  obtain ⟨l, b, xs, zs, rfl, rfl, hH, hB, hz, q⟩ := h
  cases rx
  cases ry
  obtain ⟨z, its, n, r, hl, e⟩ := I.lstM hH
  obtain ⟨z2, its2, n2, r2, hl2, e2⟩ := I.lstM hB
  refine PySem.P.add_list e e2 ?_ (by rw [List.size_toArray, List.size_toArray]; omega)
  have ea : its.toArray ++ its2.toArray = (its ++ its2).toArray := by simp
  rw [ea]
  exact ⟨.ref _, _, I.lnew (t' := s.toks) (r.append r2) (by rw [List.length_append]; omega), rfl, q _ I.fresh⟩
def rRep : R2 := fun x y H Q => ∃ l k xs, x = .ref l ∧ y = .int k ∧ H l = some (.lst xs) ∧ -(2 ^ 63) ≤ k ∧ k < 2 ^ 63 ∧ xs.length * k.toNat ≤ sizeLine ∧
  ∀ p, H p = none → Q (.ref p) (upd H p (.lst (List.replicate k.toNat xs).flatten))
theorem len_rep {α : Type} (xs : List α) (k : Nat) : (List.replicate k xs).flatten.length = k * xs.length := by
  induction k with
  | zero => simp
  | succ k ih => rw [List.replicate_succ, List.flatten_cons, List.length_append, ih, Nat.succ_mul, Nat.add_comm]
theorem op_rep : OpR X (binaryOp .Mult) rRep := by
  intro pins s σ H x y v u Q I rx ry h
  obtain ⟨l, k, xs, rfl, rfl, hH, h1, h2, hz, q⟩ := h
  cases rx
  obtain ⟨t, rfl⟩ := ry
  obtain ⟨z, its, n, r, hl, e⟩ := I.lstM hH
  have hlen : its.toArray.size * k.toNat ≤ sizeLine := by rw [List.size_toArray, ← hl]; exact hz
  have hcap : ¬ its.toArray.size * k.toNat > (2 ^ 63 - 1) / 8 := by
    have : (sizeLine : Nat) ≤ (2 ^ 63 - 1) / 8 := by decide
    omega
  have hfit : ¬ (!Builtin.List.listFitsIndex k) = true := by
    rw [fitsIndex_both h1 h2]
    exact Bool.false_ne_true
  have hlong : ¬ Builtin.List.listTooLong (its.toArray.size * k.toNat) = true := by
    rw [notLongL hlen]
    exact Bool.false_ne_true
  have hnew : List.foldl (fun x1 x2 => x1 ++ x2) #[] (List.replicate (if its.toArray.isEmpty = true then 0 else k.toNat) its.toArray) = (List.replicate k.toNat its).flatten.toArray := by
    have f0 : ∀ m : Nat, List.foldl (fun x1 x2 => x1 ++ x2) #[] (List.replicate m its.toArray) = (List.replicate m its).flatten.toArray := fun m => by
      have := foldl_rep its m []
      rw [List.nil_append] at this
      exact this
    rw [f0]
    cases its with
    | nil => simp
    | cons a r' => rw [if_neg (by simp)]
  refine wpAny_binaryOp_repeat_ref (T := "list") (U := "int") (by decide) ⟨_, e, rfl⟩ (fun s' => typeIs_int s' k t) noFill_list_mul F.fills_int_mul F.slot_int_rmul repeat_list F.slot_int_index.lookup
    (call_meets F.slot_int_rmul (typeIs_int s k t) F.entry_int_rmul (F.args_int_rmul_2 _ _) (int___rmul___int_list k t l its.toArray n)
      ⟨e, rfl, ⟨_, e, rfl⟩, call_meets F.slot_list_mul ⟨_, e, rfl⟩ F.entry_list_mul (F.args_list_mul_2 _ _) (AutoListH.list___mul___list_int_3 l its.toArray n k t hfit hcap hlong) ⟨e, ?_⟩⟩)
  rw [hnew]
  exact ⟨.ref _, _, I.lnew (t' := s.toks) (r.rep k.toNat) (by rw [len_rep, Nat.mul_comm]; exact hz), rfl, q _ I.fresh⟩
end
section
variable {prog : Program} {w : World} {A : Around} {E : Value → Shared → Prop} {s : Shared}
end
section
variable {X : Cx}
end
end L2
namespace L2
open PySem PySem.Spec PyProof.Rows
section
variable {κ : Type} [DecidableEq κ]
def valV (kvs : List (κ × V)) (k : κ) : Option V := (kvs.find? fun kv => decide (kv.1 = k)).map (·.2)
def putK (kvs : List (κ × V)) (k : κ) (v : V) : List (κ × V) :=
  if (kvs.any fun kv => decide (kv.1 = k)) = true then kvs.map (fun kv => if kv.1 = k then (kv.1, v) else kv) else kvs ++ [(k, v)]
theorem valV_pos {p : κ × V} {r : List (κ × V)} {k : κ} (e : p.1 = k) : valV (p :: r) k = some p.2 := by simp [valV, List.find?_cons, e]
theorem valV_neg {p : κ × V} {r : List (κ × V)} {k : κ} (e : ¬ p.1 = k) : valV (p :: r) k = valV r k := by simp [valV, List.find?_cons, e]
theorem valV_any (k : κ) : ∀ kvs : List (κ × V), (kvs.any fun kv => decide (kv.1 = k)) = (valV kvs k).isSome
  | [] => rfl
  | p :: r => by
    rw [List.any_cons]
    by_cases e : p.1 = k
    · simp only [valV_pos e, decide_eq_true e, Bool.true_or, Option.isSome_some]
    · rw [valV_neg e, decide_eq_false e, Bool.false_or]; exact valV_any k r
theorem valV_map (k j : κ) (y : V) : ∀ kvs : List (κ × V), valV (kvs.map fun kv => if kv.1 = k then (kv.1, y) else kv) j = (valV kvs j).map fun x => if j = k then y else x
  | [] => rfl
  | p :: r => by
    have ih := valV_map k j y r
    rw [List.map_cons]
    by_cases h : p.1 = k
    · rw [if_pos h]
      by_cases e : p.1 = j
      · rw [valV_pos (p := (p.1, y)) e, valV_pos e, Option.map_some, if_pos (e.symm.trans h)]
      · rw [valV_neg (p := (p.1, y)) e, valV_neg e, ih]
    · rw [if_neg h]
      by_cases e : p.1 = j
      · rw [valV_pos (p := p) e, valV_pos e, Option.map_some, if_neg (fun z => h (e.trans z))]
      · rw [valV_neg (p := p) e, valV_neg e, ih]
theorem valV_snoc (k j : κ) (y : V) : ∀ kvs : List (κ × V), valV kvs k = none → valV (kvs ++ [(k, y)]) j = if j = k then some y else valV kvs j
  | [], _ => by
    by_cases e : k = j
    · rw [if_pos e.symm]; exact valV_pos (p := (k, y)) e
    · rw [if_neg (fun z => e z.symm)]; exact valV_neg (p := (k, y)) e
  | p :: r, hn => by
    rw [List.cons_append]
    have hk : ¬ p.1 = k := fun z => by rw [valV_pos z] at hn; cases hn
    rw [valV_neg hk] at hn
    have ih := valV_snoc k j y r hn
    by_cases e : p.1 = j
    · rw [valV_pos e, valV_pos e, if_neg (fun z => hk (e.trans z))]
    · rw [valV_neg e, valV_neg e, ih]
theorem valV_put (kvs : List (κ × V)) (k j : κ) (y : V) : valV (putK kvs k y) j = if j = k then some y else valV kvs j := by
  unfold putK
  by_cases a : (kvs.any fun kv => decide (kv.1 = k)) = true
  · rw [if_pos a, valV_map]
    rw [valV_any] at a
    by_cases e : j = k
    · obtain ⟨x, hx⟩ := Option.isSome_iff_exists.mp a
      rw [if_pos e, e, hx, Option.map_some, if_pos rfl]
    · rw [if_neg e]
      cases valV kvs j with
      | none => rfl
      | some x => rw [Option.map_some, if_neg e]
  · rw [if_neg a]
    refine valV_snoc k j y kvs ?_
    rw [valV_any] at a
    cases q : valV kvs k with
    | none => rfl
    | some x => rw [q] at a; exact (a rfl).elim
theorem length_putK (kvs : List (κ × V)) (k : κ) (v : V) : (putK kvs k v).length ≤ kvs.length + 1 := by
  unfold putK
  split
  · rw [List.length_map]; omega
  · rw [List.length_append, List.length_cons, List.length_nil]; omega
theorem RelO.isSome_eq {o : Option V} {u : Option Value} (r : RelO o u) : o.isSome = u.isSome := by
  cases o with
  | none => cases u with
    | none => rfl
    | some _ => exact (show False from r).elim
  | some _ => cases u with
    | none => exact (show False from r).elim
    | some _ => rfl
theorem RelO.getD {o : Option V} {u : Option Value} {d : V} {d' : Value} (r : RelO o u) (rd : RelV d d') : RelV (o.getD d) (u.getD d') := by
  cases o with
  | none => cases u with
    | none => exact rd
    | some _ => exact (show False from r).elim
  | some _ => cases u with
    | none => exact (show False from r).elim
    | some _ => exact r
theorem KV.val {kvs : List (κ × V)} {vs : List (κ × Value)} (r : KV kvs vs) (k : κ) : RelO (valV kvs k) (valueAt vs k) := by
  unfold KV at r
  induction r with
  | nil => exact True.intro
  | @cons p q ps qs h t ih =>
    obtain ⟨h1, h2⟩ := h
    by_cases e : p.1 = k
    · have e' : q.1 = k := h1.symm.trans e
      have b : valueAt (q :: qs) k = some q.2 := by simp [valueAt, List.find?_cons, e']
      rw [valV_pos e, b]; exact h2
    · have e' : ¬ q.1 = k := fun z => e (h1.trans z)
      have b : valueAt (q :: qs) k = valueAt qs k := by simp [valueAt, List.find?_cons, e']
      rw [valV_neg e, b]; exact ih
theorem KV.any {kvs : List (κ × V)} {vs : List (κ × Value)} (r : KV kvs vs) (k : κ) : (kvs.any fun kv => decide (kv.1 = k)) = vs.any fun kv => decide (kv.1 = k) := by
  unfold KV at r
  induction r with
  | nil => rfl
  | cons h t ih => rw [List.any_cons, List.any_cons, ih, h.1]
theorem KV.repl {kvs : List (κ × V)} {vs : List (κ × Value)} (r : KV kvs vs) (k : κ) {y : V} {u : Value} (ry : RelV y u) :
    KV (kvs.map fun kv => if kv.1 = k then (kv.1, y) else kv) (vs.map fun kv => if kv.1 = k then (kv.1, u) else kv) := by
  unfold KV at r ⊢
  induction r with
  | nil => exact .nil
  | @cons p q ps qs h t ih =>
    rw [List.map_cons, List.map_cons]
    refine .cons ?_ ih
    obtain ⟨h1, h2⟩ := h
    by_cases e : p.1 = k
    · rw [if_pos e, if_pos (h1.symm.trans e)]; exact ⟨h1, ry⟩
    · rw [if_neg e, if_neg (fun z => e (h1.trans z))]; exact ⟨h1, h2⟩
theorem KV.put {kvs : List (κ × V)} {vs : List (κ × Value)} (r : KV kvs vs) (k : κ) {y : V} {u : Value} (ry : RelV y u) : KV (putK kvs k y) (stored vs k u) := by
  unfold putK stored
  rw [r.any k]
  by_cases e : (vs.any fun kv => decide (kv.1 = k)) = true
  · rw [if_pos e, if_pos e]; exact r.repl k ry
  · rw [if_neg e, if_neg e]; exact Paired.snoc r ⟨rfl, ry⟩
theorem KV.length {kvs : List (κ × V)} {vs : List (κ × Value)} (r : KV kvs vs) : kvs.length = vs.length := Paired.length r
end
theorem kV_is {P : Program} {w : World} {k : Key} {u : Value} (r : RelV (kV k) u) : (mixKind P w).is k u = true := by
  cases k with
  | inl i => obtain ⟨t, e⟩ := (show ∃ t, u = Value.int i t from r); subst e; exact mixKind_int P w i t
  | inr x => obtain ⟨t, e⟩ := (show ∃ t, u = Value.str x t from r); subst e; exact mixKind_str P w x t
theorem items_are {P : Program} {w : World} : ∀ {ks : List Key} {us : List Value}, Vals (ks.map kV) us → ItemsAre (mixKind P w) ks us
  | [], _, r => by rw [List.map_nil] at r; cases r; exact .nil
  | k :: ks, _, r => by
    rw [List.map_cons] at r
    cases r with
    | cons h t => exact .cons (kV_is h) (items_are t)
abbrev KT (H : Hp) : List (List Key × V) → List (List Key × Addr × Value) → Prop := Paired fun p q => p.1 = q.1 ∧ H q.2.1 = some (.tup (p.1.map kV)) ∧ RelV p.2 q.2.2
theorem KT.val {H : Hp} {kvs : List (List Key × V)} {xs : List (List Key × Addr × Value)} (r : KT H kvs xs) (k : List Key) : RelO (valV kvs k) ((atKey xs k).map (·.2)) := by
  induction r with
  | nil => exact True.intro
  | @cons p q ps qs h t ih =>
    obtain ⟨h1, _, h2⟩ := h
    by_cases e : p.1 = k
    · have e' : q.1 = k := h1.symm.trans e
      have b : atKey (q :: qs) k = some q.2 := by simp [atKey, List.find?_cons, e']
      rw [valV_pos e, b]; exact h2
    · have e' : ¬ q.1 = k := fun z => e (h1.trans z)
      have b : atKey (q :: qs) k = atKey qs k := by simp [atKey, List.find?_cons, e']
      rw [valV_neg e, b]; exact ih
theorem KT.repl {H : Hp} {kvs : List (List Key × V)} {xs : List (List Key × Addr × Value)} (r : KT H kvs xs) (k : List Key) {y : V} {u : Value} (ry : RelV y u) :
    KT H (kvs.map fun kv => if kv.1 = k then (kv.1, y) else kv) (xs.map (putAt k u)) := by
  induction r with
  | nil => exact .nil
  | @cons p q ps qs h t ih =>
    rw [List.map_cons, List.map_cons]
    refine .cons ?_ ih
    obtain ⟨h1, h2, h3⟩ := h
    unfold putAt
    by_cases e : p.1 = k
    · rw [if_pos e, if_pos (h1.symm.trans e)]; exact ⟨h1, h2, ry⟩
    · rw [if_neg e, if_neg (fun z => e (h1.trans z))]; exact ⟨h1, h2, h3⟩
theorem KT.put {H : Hp} {kvs : List (List Key × V)} {xs : List (List Key × Addr × Value)} (r : KT H kvs xs) (k : List Key) {b : Addr} {y : V} {u : Value} (hb : H b = some (.tup (k.map kV))) (ry : RelV y u) :
    KT H (putK kvs k y) (storedH xs k b u) := by
  have e : (kvs.any fun kv => decide (kv.1 = k)) = (atKey xs k).isSome := by
    rw [valV_any, (r.val k).isSome_eq, Option.isSome_map]
  unfold putK storedH
  rw [e]
  by_cases q : (atKey xs k).isSome = true
  · rw [if_pos q, if_pos q]; exact r.repl k ry
  · rw [if_neg q, if_neg q]; exact Paired.snoc r ⟨rfl, hb, ry⟩
theorem KT.keeps {H H' : Hp} {kvs : List (List Key × V)} {xs : List (List Key × Addr × Value)} (r : KT H kvs xs) (ht : ∀ b ys, H b = some (.tup ys) → H' b = some (.tup ys)) : KT H' kvs xs :=
  Paired.mapP r fun _ _ z => ⟨z.1, ht _ _ z.2.1, z.2.2⟩
section
variable {P : Program} {w : World} {H : Hp} {h : Heap} {a : Addr}
theorem rd_of {u : HO} (ok : HOk P w H h) (e : Rd H a u) : ObjOk P w H h a u := e.ok ok
theorem dk_rd {kvs : List (Key × V)} (ok : HOk P w H h) (e : Rd H a (.dK kvs)) : kvs.length ≤ sizeLine ∧ (a == sysModules) = false ∧ ∃ vs, KV kvs vs ∧ h.DictOf (mixKind P w) a vs :=
  show ObjOk P w H h a (.dK kvs) from rd_of ok e
theorem dk_of {kvs : List (Key × V)} (ok : HOk P w H h) (e : H a = some (.dK kvs)) : kvs.length ≤ sizeLine ∧ (a == sysModules) = false ∧ ∃ vs, KV kvs vs ∧ h.DictOf (mixKind P w) a vs := dk_rd ok (.inl e)
theorem key_of {ks : List Key} (ok : HOk P w H h) (e : H a = some (.tup (ks.map kV))) : (tupleKind (mixKind P w)).is h ks a := by
  obtain ⟨_, its, r, o, h1, h2, n, h3⟩ := (show ObjOk P w H h a (.tup (ks.map kV)) from ok a _ e)
  exact ⟨o, its.toArray, n, h1, h2, h3, by simpa using items_are r⟩
theorem dt_rd {kvs : List (List Key × V)} (ok : HOk P w H h) (e : Rd H a (.dT kvs)) : kvs.length ≤ sizeLine ∧ (a == sysModules) = false ∧
    ∃ xs, KT H kvs xs ∧ h.DictOfH (tupleKind (mixKind P w)) a xs := by
  obtain ⟨z, y, xs, r, o, es, ep, h1, h2, h3, h4, h5⟩ := (show ObjOk P w H h a (.dT kvs) from rd_of ok e)
  refine ⟨z, y, xs, r, o, es, ep, h1, h2, h3, h4, fun x hx => ?_, h5⟩
  have all : ∀ {l : List (List Key × V)} {m : List (List Key × Addr × Value)}, KT H l m → ∀ x ∈ m, (tupleKind (mixKind P w)).is h x.1 x.2.1 := by
    intro l m q
    induction q with
    | nil => intro x hx; exact nomatch hx
    | @cons p q ps qs hq t ih =>
      intro x hx
      rcases List.mem_cons.mp hx with e | hx
      · subst e
        exact key_of ok (by rw [← hq.1]; exact hq.2.1)
      · exact ih x hx
  exact all r x hx
theorem dt_of {kvs : List (List Key × V)} (ok : HOk P w H h) (e : H a = some (.dT kvs)) : kvs.length ≤ sizeLine ∧ (a == sysModules) = false ∧
    ∃ xs, KT H kvs xs ∧ h.DictOfH (tupleKind (mixKind P w)) a xs := dt_rd ok (.inl e)
end
def DGet (H : Hp) (a : Addr) (y : V) (r : Option V) : Prop :=
  (∃ kvs k, Rd H a (.dK kvs) ∧ y = kV k ∧ r = valV kvs k) ∨ ∃ kvs k b, Rd H a (.dT kvs) ∧ y = .ref b ∧ H b = some (.tup (k.map kV)) ∧ r = valV kvs k
def DPut (H : Hp) (a : Addr) (y v : V) (H' : Hp) : Prop :=
  (∃ kvs k, H a = some (.dK kvs) ∧ y = kV k ∧ kvs.length < sizeLine ∧ H' = upd H a (.dK (putK kvs k v))) ∨
  ∃ kvs k b, H a = some (.dT kvs) ∧ y = .ref b ∧ H b = some (.tup (k.map kV)) ∧ kvs.length < sizeLine ∧ H' = upd H a (.dT (putK kvs k v))
theorem DGet.k {H : Hp} {a : Addr} {kvs : List (Key × V)} {k : Key} (e : H a = some (.dK kvs)) : DGet H a (kV k) (valV kvs k) := .inl ⟨kvs, k, .inl e, rfl, rfl⟩
theorem DPut.k {H : Hp} {a : Addr} {kvs : List (Key × V)} {k : Key} {v : V} (e : H a = some (.dK kvs)) (hl : kvs.length < sizeLine) : DPut H a (kV k) v (upd H a (.dK (putK kvs k v))) := .inl ⟨kvs, k, e, rfl, hl, rfl⟩
section
variable {X : Cx} {pins : List (Addr × Obj)} {σ : St} {H : Hp} {s : Shared} {a : Addr} {y v : V} {u r : Value} {o : Option V} {A : Around} {E : Value → Shared → Prop}
theorem Inv.big (I : Inv X pins σ H s) : sysModules < s.heap.objs.size := by
  have h : mainGlobals < s.heap.objs.size := (I.mod.glob.keeps I.bk).lt
  exact Nat.lt_trans (by decide) h
theorem d_getItem {Q : Value → Shared → Prop} (hu : A.units + 1 < cLine) (I : Inv X pins σ H s) (g : DGet H a y (some v)) (ry : RelV y u) (h : ∀ w' s', Inv X pins σ H s' → RelV v w' → Q w' s') :
    wpAny (model X.prog X.w) A (getItem (.ref a) u) Q E s := by
  rcases g with ⟨kvs, k, e, ey, l⟩ | ⟨kvs, k, b, e, ey, eb, l⟩
  · subst ey
    obtain ⟨z, hd, vs, rel, dd⟩ := dk_rd I.hok e
    obtain ⟨w', hw, rw'⟩ := RelO.some_of (v := v) (o := valueAt vs k) (by rw [l]; exact rel.val k)
    exact wpAny_getItem_of (kV_is ry) dd.mapOf hw (h w' _ (I.tok _) rw')
  · subst ey
    cases (show u = Value.ref b from ry)
    obtain ⟨z, hd, xs, rel, dd⟩ := dt_rd I.hok e
    obtain ⟨w', hw, rw'⟩ := RelO.some_of (v := v) (o := (atKey xs k).map (·.2)) (by rw [l]; exact rel.val k)
    obtain ⟨p, hp, hp2⟩ := Option.map_eq_some_iff.mp hw
    refine wpAny_getItem_heap (tupleKind_room_in1 hu) (key_of I.hok eb) dd hp ?_
    rw [hp2]
    exact h w' _ (I.tok _) rw'
theorem d_write {h' : Heap} {t' : Nat} {ob : HO} (I : Inv X pins σ H s) (mu : Mut (H a)) (hs : Heap.SameBut a s.heap h') (he : ∃ q, h'.get? a = some q) (new : ObjOk X.prog X.w (upd H a ob) h' a ob) :
    Inv X pins σ (upd H a ob) { s with heap := h', toks := t' } :=
  I.write (x := a) (e := a) mu (.inl rfl) (fun b q hb z => (hs.2 b hb).trans z) he new
theorem dk_new {P : Program} {w : World} {H' : Hp} {h' : Heap} {kvs : List (Key × V)} {vs : List (Key × Value)} (z : kvs.length ≤ sizeLine) (hd : (a == sysModules) = false) (rel : KV kvs vs) (dd : h'.DictOf (mixKind P w) a vs) :
    ObjOk P w H' h' a (.dK kvs) := ⟨z, hd, vs, rel, dd⟩
theorem d_setItem {H' : Hp} {Q : Unit → Shared → Prop} (hu : A.units + 1 < cLine) (I : Inv X pins σ H s) (g : DPut H a y v H') (ry : RelV y u) (rv : RelV v r) (h : ∀ s', Inv X pins σ H' s' → Q () s') :
    wpAny (model X.prog X.w) A (setItem (.ref a) u r) Q E s := by
  rcases g with ⟨kvs, k, e, ey, l, eH⟩ | ⟨kvs, k, b, e, ey, eb, l, eH⟩
  · subst ey eH
    obtain ⟨z, hd, vs, rel, dd⟩ := dk_of I.hok e
    have hz : vs.length ≤ sizeLine := by rw [← rel.length]; exact z
    have hl : (putK kvs k v).length ≤ sizeLine := by have := length_putK kvs k v; omega
    refine wpAny_setItem_pairs (hsz := hz) (kV_is ry) dd fun h' dd' hs => h _ ?_
    have he : ∃ q, h'.get? a = some q := let ⟨q, _, _, hq, _⟩ := dd'; ⟨q, hq⟩
    exact d_write I (by rw [e]; exact True.intro) hs he (dk_new hl hd (rel.put k rv) dd')
  · subst ey eH
    cases (show u = Value.ref b from ry)
    obtain ⟨z, hd, xs, rel, dd⟩ := dt_of I.hok e
    have hz : xs.length ≤ sizeLine := by rw [← Paired.length rel]; exact z
    have hl : (putK kvs k v).length ≤ sizeLine := by have := length_putK kvs k v; omega
    refine wpAny_setItem_heap (hsz := hz) (tupleKind_room_in1 hu) (key_of I.hok eb) dd fun h' dd' hs => h _ ?_
    obtain ⟨q, es, ep, hq, h2, h3, h4, _, h5⟩ := dd'
    refine d_write I (by rw [e]; exact True.intro) hs ⟨q, hq⟩ ⟨hl, hd, _, (rel.put k eb rv).keeps fun c ys ec => ?_, q, es, ep, hq, h2, h3, h4, h5⟩
    rw [upd_ne (ne_of ec e (fun z => nomatch z))]
    exact ec
end
section
variable {X : Cx} {pins : List (Addr × Obj)} {σ : St} {H : Hp} {s : Shared} {a : Addr} {kvs : List (Key × V)} {k : Key} {u : Value} {A : Around} {E : Value → Shared → Prop}
end
def NoSl (i : Expr) : Prop := ∀ ov iv, subscripted i false ov iv = operate [ov, iv] (getItem ov iv)
theorem subD_of {prog : Program} {w : World} {A : Around} {E : Value → Shared → Prop} {s : Shared} {env : Env} {value slice : Expr} {pos : Pos} {T id : String} {Q : Value → Shared → Prop}
    (hl : typeLookup (.type T) "__getitem__" = pure (some (.builtin id))) (hs : NoSl slice)
    (h : wpAny (model prog w) A (eval value env) (fun o s₁ => wpAny (model prog w) A (eval slice env) (fun i s₂ => s₂.TypeIs o T ∧ wpAny (model prog w) A (getItem o i) Q E s₂) E s₁) E s) :
    wpAny (model prog w) A (eval (.Subscript value slice pos) env) Q E s := by
  refine Subscript_ (wpAny_mono h (fun o s₁ h₁ => wpAny_mono h₁ (fun i s₂ h₂ => ?_) fun _ _ x => x) fun _ _ x => x)
  obtain ⟨hT, h₂⟩ := h₂
  unfold subscriptTail
  refine wpAny_bind ?_
  rw [getitemInPython_of_ne hT.not_modules]
  refine wpAny_bind (wpAny_specialOf hT hl ?_)
  have fin : wpAny (model prog w) A (subscripted slice false o i) (fun r s₃ => wpAny (model prog w) A (letTemporaryGo value o r >>= fun _ => pure r) Q E s₃) E s₂ := by
    rw [hs o i]
    exact wpAny_operating (wpAny_mono h₂ (fun r s₃ h₃ => wpAny_bind (wpAny_letTemporaryGo (wpAny_pure h₃))) fun _ _ x => x)
  first
    | exact wpAny_pure (wpAny_bind fin)
    | exact wpAny_bind (wpAny_pure (wpAny_bind fin))
    | exact wpAny_bind fin
theorem dict_typeIs {X : Cx} {pins : List (Addr × Obj)} {σ : St} {H : Hp} {s : Shared} {a : Addr} {y : V} {o : Option V} (I : Inv X pins σ H s) (g : DGet H a y o) : s.TypeIs (.ref a) "dict" := by
  rcases g with ⟨kvs, k, e, _, _⟩ | ⟨kvs, k, b, e, _, _, _⟩
  · obtain ⟨_, _, vs, _, dd⟩ := dk_rd I.hok e
    exact dd.typeIs
  · obtain ⟨_, _, xs, _, dd⟩ := dt_rd I.hok e
    exact dd.typeIs
section
variable {X : Cx} {o i e value : Expr} {pos pos' tpos : Pos} {td ty tv : TE}
end
theorem dk_empty {P : Program} {w : World} {H : Hp} (h : Heap) (hb : sysModules < h.objs.size) : ObjOk P w H (h.push { cls := .type "dict", data := .dict #[] }) h.objs.size (.dK []) :=
  ⟨Nat.zero_le _, beq_eq_false_iff_ne.mpr (Ne.symm (Nat.ne_of_lt hb)), [], .nil, Heap.DictOf.new h⟩
def tDNewK : TE := fun _ H Q => ∀ p, H p = none → Q (.ref p) (upd H p (.dK []))
section
variable {X : Cx} {pos : Pos}
theorem pe_dnewK : PE X (.Dict [] [] pos) tDNewK := fun pins s σ H Q I h =>
  wpAny_Dict_empty ⟨.ref s.heap.objs.size, _, I.laid (a := s.heap.objs.size) (o := .dK []) (t' := s.toks) (fun _ _ q => Heap.get?_push_of_some _ q) (Nat.le_refl _) (dk_empty s.heap I.big), rfl, h _ (I.hok.fresh (Nat.le_refl _))⟩
end
def tPairs : List (TE × TE) → St → Hp → (List (V × V) → Hp → Prop) → Prop
  | [], _, H, Q => Q [] H
  | (tk, tv) :: r, σ, H, Q => tk σ H fun x H1 => tv σ H1 fun y H2 => tPairs r σ H2 fun ps H3 => Q ((x, y) :: ps) H3
abbrev VV : List (V × V) → List (Value × Value) → Prop := Paired fun p q => RelV p.1 q.1 ∧ RelV p.2 q.2
def PPs (X : Cx) (pos : Pos) (keys : List (Option Expr)) (values : List Expr) (trs : List (TE × TE)) : Prop :=
  ∀ (pins : List (Addr × Obj)) (s : Shared) (σ : St) (H : Hp) (Q : List (V × V) → Hp → Prop), Inv X pins σ H s → tPairs trs σ H Q →
    wpAny (model X.prog X.w) X.A (evalPairs (pairTrees keys values X.env pos)) (fun vs s' => ∃ ps H', Inv X pins σ H' s' ∧ VV ps vs ∧ Q ps H') X.xe s
theorem pps_nil {X : Cx} {pos : Pos} : PPs X pos [] [] [] := fun pins s σ H Q I h => pairTrees_nil_walk ⟨[], H, I, .nil, h⟩
theorem pps_cons {X : Cx} {pos : Pos} {k v : Expr} {ks : List (Option Expr)} {vs : List Expr} {tk tv : TE} {trs : List (TE × TE)} (hk : PE X k tk) (hv : PE X v tv) (hr : PPs X pos ks vs trs) :
    PPs X pos (some k :: ks) (v :: vs) ((tk, tv) :: trs) := fun pins s σ H Q I h =>
  pairTrees_cons_walk (thn (hk pins s σ H _ I h) fun u s1 ⟨x, H1, I1, rx, q1⟩ => thn (hv pins s1 σ H1 _ I1 q1) fun w2 s2 ⟨y, H2, I2, ry, q2⟩ =>
    thn (hr pins s2 σ H2 _ I2 q2) fun ws s3 ⟨ps, H3, I3, rel, q3⟩ => ⟨(x, y) :: ps, H3, I3, .cons ⟨rx, ry⟩ rel, q3⟩)
def mergeK (kvs more : List (Key × V)) : List (Key × V) := more.foldl (fun acc kv => putK acc kv.1 kv.2) kvs
theorem KV.merge : ∀ {more : List (Key × V)} {rs : List (Key × Value)} {kvs : List (Key × V)} {vs : List (Key × Value)}, KV more rs → KV kvs vs → KV (mergeK kvs more) (merged vs rs) := by
  intro more rs kvs vs r
  unfold KV at r
  induction r generalizing kvs vs with
  | nil => intro q; exact q
  | @cons p q ps qs h t ih =>
    intro r0
    have e : KV (putK kvs p.1 p.2) (stored vs q.1 q.2) := by
      have := r0.put p.1 h.2
      rw [← h.1]; exact this
    exact ih e
theorem length_mergeK : ∀ (more kvs : List (Key × V)), (mergeK kvs more).length ≤ kvs.length + more.length
  | [], kvs => by show kvs.length ≤ kvs.length + 0; omega
  | p :: r, kvs => by
    have h1 := length_mergeK r (putK kvs p.1 p.2)
    have h2 := length_putK kvs p.1 p.2
    show (mergeK (putK kvs p.1 p.2) r).length ≤ _
    rw [List.length_cons]; omega
theorem carries_of {P : Program} {w : World} : ∀ {kvs : List (Key × V)} {ws : List (Value × Value)}, VV (kvs.map fun kv => (kV kv.1, kv.2)) ws → ∃ rs, Carries (mixKind P w) ws rs ∧ KV kvs rs
  | [], _, r => by rw [List.map_nil] at r; cases r; exact ⟨[], True.intro, .nil⟩
  | p :: kvs, _, r => by
    rw [List.map_cons] at r
    cases r with
    | @cons a b as bs h t =>
      obtain ⟨rs, c, q⟩ := carries_of (P := P) (w := w) t
      obtain ⟨b1, b2⟩ := b
      exact ⟨(p.1, b2) :: rs, ⟨kV_is h.1, rfl, c⟩, .cons ⟨rfl, h.2⟩ q⟩
def tDisp (trs : List (TE × TE)) : TE := fun σ H Q => ∀ p, H p = none → tPairs trs σ (upd H p (.dK [])) fun ps H2 => H2 p = some (.dK []) ∧ ∃ kvs : List (Key × V), ps = kvs.map (fun kv => (kV kv.1, kv.2)) ∧ kvs.length ≤ 15 ∧ Q (.ref p) (upd H2 p (.dK (mergeK [] kvs)))
theorem pe_disp {X : Cx} {pos : Pos} {keys : List (Option Expr)} {values : List Expr} {trs : List (TE × TE)} (h : PPs X pos keys values trs) (hall : keys.all (·.isSome) = true) (hl : keys.length = values.length) (h0 : keys ≠ [])
    (h15 : keys.length ≤ 15) : PE X (.Dict keys values pos) (tDisp trs) := by
  intro pins s σ H Q I q
  have hn := I.hok.fresh (Nat.le_refl s.heap.objs.size)
  have I1 := I.laid (a := s.heap.objs.size) (o := .dK []) (h' := s.heap.push { cls := .type "dict", data := .dict #[] }) (t' := s.toks) (fun _ _ q => Heap.get?_push_of_some _ q) (Nat.le_refl _) (dk_empty s.heap I.big)
  refine wpAny_Dict_walk (knd := mixKind X.prog X.w) hall hl h0 h15 (thn (h pins _ σ _ _ I1 (q _ hn)) fun ws s2 ⟨ps, H2, I2, rel, e, kvs, ep, lk, q2⟩ => ?_)
  subst ep
  obtain ⟨rs, c, rk⟩ := carries_of (P := X.prog) (w := X.w) rel
  obtain ⟨z, hd, vs0, r0, dd⟩ := dk_of I2.hok e
  cases r0
  refine ⟨rs, c, dd, fun h' dd' hs => ⟨.ref s.heap.objs.size, _, ?_, rfl, q2⟩⟩
  have hz : (mergeK [] kvs).length ≤ sizeLine := by
    have h1 := length_mergeK kvs []
    rw [List.length_nil] at h1
    rw [sizeLine_eq]; omega
  have he : ∃ q, h'.get? s.heap.objs.size = some q := let ⟨q, _, _, hq, _⟩ := dd'; ⟨q, hq⟩
  exact d_write I2 (by rw [e]; exact True.intro) hs he (dk_new hz hd (rk.merge .nil) dd')
structure M2 (X : Cx) (o : Expr) (m : Str) (apos : Pos) (e f : Expr) (cpos : Pos) : Prop where
  base : attributeBase o m X.env (eval o X.env) = eval o X.env
  few : ((backTo cpos (starEach [e, f] X.env)).all (fun x => !x.1) && (backToKw cpos (keywordEach [] X.env)).all (fun x => x.1.isSome)
    && decide (([e, f] : List Expr).length + ([] : List Keyword).length + (if ([] : List Keyword).isEmpty then 0 else 1) < 30)) = true
  line : (apos.endLine == cpos.line) = true
  trees : backTo cpos (starEach [e, f] X.env) = [(false, eval e X.env), (false, eval f X.env)]
def IsD (H : Hp) (a : Addr) : Prop := (∃ kvs, Rd H a (.dK kvs)) ∨ ∃ kvs, Rd H a (.dT kvs)
theorem isD_at {X : Cx} {pins : List (Addr × Obj)} {σ : St} {H : Hp} {s : Shared} {a : Addr} (I : Inv X pins σ H s) (d : IsD H a) :
    s.TypeIs (.ref a) "dict" ∧ (∀ b, Value.ref a = .ref b → ∃ ob, s.heap.get? b = some ob ∧ ob.dict = none) ∧ (a == sysModules) = false := by
  rcases d with ⟨kvs, e⟩ | ⟨kvs, e⟩
  · obtain ⟨_, hd, vs, _, dd⟩ := dk_rd I.hok e
    refine ⟨dd.typeIs, fun b q => ?_, hd⟩
    cases q
    obtain ⟨ob, _, _, h1, h2, _⟩ := dd
    exact ⟨ob, h1, h2.2.1⟩
  · obtain ⟨_, hd, xs, _, dd⟩ := dt_rd I.hok e
    refine ⟨dd.typeIs, fun b q => ?_, hd⟩
    cases q
    obtain ⟨ob, _, _, h1, h2, _⟩ := dd
    exact ⟨ob, h1, h2.2.1⟩
section
variable {X : Cx} {pins : List (Addr × Obj)} {σ : St} {H : Hp} {s : Shared} {a : Addr} {y d : V} {u r : Value} {o : Option V} {A : Around} {E : Value → Shared → Prop}
theorem d_get2 {Q : Value → Shared → Prop} (hu : A.units + 1 < cLine) (I : Inv X pins σ H s) (g : DGet H a y o) (ry : RelV y u) (rd : RelV d r) (h : ∀ w' s', Inv X pins σ H s' → RelV (o.getD d) w' → Q w' s') :
    wpAny (model X.prog X.w) A (call (.builtin "dict.get") [.ref a, u, r]) Q E s := by
  rcases g with ⟨kvs, k, e, ey, l⟩ | ⟨kvs, k, b, e, ey, eb, l⟩
  · subst ey
    obtain ⟨z, hd, vs, rel, dd⟩ := dk_rd I.hok e
    refine call_meetsIn PySem.F.slot_dict_get dd.typeIs PySem.F.entry_dict_get (PySem.F.args_dict_get_3 _ _ _) (meets_dict_get_default (mixKind X.prog X.w) a (kV_is ry) hd r) ⟨_, dd.mapOf, h _ _ (I.tok _) ?_⟩
    rw [l]
    exact (rel.val k).getD rd
  · subst ey
    cases (show u = Value.ref b from ry)
    obtain ⟨z, hd, xs, rel, dd⟩ := dt_rd I.hok e
    refine call_meetsIn PySem.F.slot_dict_get dd.typeIs PySem.F.entry_dict_get (PySem.F.args_dict_get_3 _ _ _) (meetsH_dict_get_default (tupleKind (mixKind X.prog X.w)) a b hd r) ⟨tupleKind_room_in1 hu, k, xs, key_of I.hok eb, dd, h _ _ (I.tok _) ?_⟩
    rw [l]
    exact (rel.val k).getD rd
end
def tDGet2 (td ty tx : TE) : TE := fun σ H Q => td σ H fun x H1 => ∃ a, x = .ref a ∧ IsD H1 a ∧ ty σ H1 fun y H2 => tx σ H2 fun z H3 => ∃ o, DGet H3 a y o ∧ Q (o.getD z) H3
section
variable {X : Cx} {o e f : Expr} {apos cpos : Pos} {td ty tx : TE}
theorem pe_dget2 (hu : X.A.units + 1 < cLine) (ho : PE X o td) (he : PE X e ty) (hf : PE X f tx) (m : M2 X o "get" apos e f cpos) : PE X (.Call (.Attribute o "get" apos) [e, f] [] cpos) (tDGet2 td ty tx) := by
  intro pins s σ H Q I h
  refine wpAny_Call_method m.base m.few m.line PySem.F.plainAttrs_dict PySem.F.slot_dict_get PySem.F.type_dict_get (thn (ho pins s σ H _ I h) fun u s1 ⟨x, H1, I1, rx, a, ex, d, q1⟩ => ?_)
  subst ex
  obtain rfl : u = Value.ref a := rx
  obtain ⟨t1, t2, _⟩ := isD_at I1 d
  refine ⟨t1, t2, ?_⟩
  rw [m.trees]
  refine Calls.callWith_builtin rfl (Calls.evalArgs_plain (Calls.spliced_cons (thn (he pins s1 σ H1 _ I1 q1) fun iv s2 ⟨y, H2, I2, ry, q2⟩ =>
    Calls.spliced_cons (thn (hf pins s2 σ H2 _ I2 q2) fun fv s3 ⟨z, H3, I3, rz, ov, g, q3⟩ => Calls.spliced_nil ?_))))
  exact d_get2 hu I3 g ry rz fun w' s4 I4 rw' => ⟨_, H3, I4, rw', q3⟩
end
section
variable {X : Cx} {pins : List (Addr × Obj)} {σ : St} {H : Hp} {s : Shared} {a : Addr} {kvs : List (Key × V)} {A : Around} {E : Value → Shared → Prop}
end
section
variable {X : Cx} {pins : List (Addr × Obj)} {σ : St} {H : Hp} {s : Shared} {a : Addr} {y : V} {u : Value} {A : Around} {E : Value → Shared → Prop}
end
end L2
namespace Att
open PySem PySem.W PySem.Calls PyProof.Rows
theorem ints_of_wellAll {P : Params} {h : Heap} : ∀ (ns : List Int) (vs : List Value), WellAll P h vs (ns.map WData.int) → IntsAre vs ns := by
  intro ns
  induction ns with
  | nil =>
    intro vs w
    rw [List.map_nil] at w
    cases w
    exact .nil
  | cons n ns ih =>
    intro vs w
    rw [List.map_cons] at w
    cases w with
    | cons a b =>
      cases a
      exact .cons _ _ (ih _ b)
theorem script_of {l : OpenLaw} {n : Nat} (hn : l.most = some n) {P : Params} {h : Heap} {args : List WData} {vals : List Value}
    (hpre : l.row.toRowW.claim.pre args = true) (hwl : WellAll P h vals args) :
    ∃ a vs ns, vals = [Value.ref a] ∧ args = [WData.list (ns.map WData.int)] ∧ h.get? a = some { cls := .type "list", data := .seq vs.toArray } ∧ IntsAre vs ns ∧ ns.length ≤ n := by
  have hsh : WShape.hasAll [] args [.list .int] = true := (pre_splitW hpre).1
  have hc : l.pre.holds [] { args := args } = true := (pre_splitW hpre).2
  obtain ⟨d, r, rfl, h1, h2⟩ := hasAllW_cons hsh
  obtain rfl := hasAllW_nil h2
  obtain ⟨xs, rfl, h3⟩ := hasW_list h1
  obtain ⟨ns, rfl⟩ := items_int h3
  have hlen : ns.length ≤ n := by
    unfold OpenLaw.pre at hc
    have h4 : (WTm.not (.lt (.lit (.int (n : Int))) (.len (.arg 0)))).holds [] { args := [.list (ns.map .int)] } = true := by
      have h4 := (holds_andW hc).1
      rw [hn] at h4
      exact h4
    have h5 := condW_of h4 (w_not (w_lt w_lit (w_len_list (w_arg rfl))))
    rw [List.length_map] at h5
    refine Nat.le_of_not_lt fun q => ?_
    have q' : (n : Int) < ((ns.length : Nat) : Int) := by omega
    first
      | (rw [decide_eq_true q'] at h5; exact absurd h5 (by decide))
      | (simp at h5; omega)
  cases hwl with
  | cons w1 w2 =>
    cases w2
    cases w1 with
    | list ho hall => exact ⟨_, _, ns, rfl, rfl, ho, ints_of_wellAll ns _ hall, hlen⟩
theorem post_true (l : OpenLaw) (args : List WData) : l.row.toRowW.claim.post args (.bool true) args = true :=
  postW_of (r := l.row.toRowW) (X := (true == true))
    (show WShape.has [] (.bool true) .bool = true by first | rfl | decide | simp [WShape.has, WShape.arms, WShape.armsAll])
    (show (WTm.eq .res (.lit (.bool true))).value [] { args := args, res := some (.bool true), after := args } = some (.bool (true == true)) from w_eq_bool (w_res rfl) w_lit) rfl
theorem attach_call {l : OpenLaw} {n : Nat} {q : Program} {loose : List Str} {XP : (Str → Option Value) → Heap → Prop} {YP : World → Heap → Prop} {d : DefRec}
    (hn : l.most = some n) (hdf : d.params.defaults = [])
    (call : ∀ (w : World) (s₀ s₁ : Shared) (mg mb : Str → Option Value) (fa : Addr) (o : Obj) (pm cd doc : Value) (a : Addr) (vs : List Value) (ns : List Int),
      Ground q loose [] XP w s₀ mg mb s₁.heap → YP w s₁.heap →
      s₁.heap.get? fa = some o → o.data = .func (docDef d.name d.params d.body d.scope pm cd doc) → s₁.heap.CodeRec cd d.name → mg d.name = some (.ref fa) →
      s₁.heap.get? a = some { cls := .type "list", data := .seq vs.toArray } → IntsAre vs ns → ns.length ≤ n → s₁.gens = #[] →
      codeAny (model l.prog w) callerA (.call (.ref fa) ⟨[.ref a], []⟩) (fun r s' => r = .ok (.ret (.bool true)) ∧ OldK s₁.heap s'.heap ∧ s'.os = s₁.os ∧ AllBare s'.gens) s₁) :
    WalkO q loose XP YP l.row.toRowW d [] (fun f vs => PySem.call f vs) := by
  intro w s₀ s₁ mg mb G Y fa o pm cd doc dV kV ho hd hcd hD hmg hg args vals as hpre hlay hrd hwl hlo
  obtain rfl : dV = .none := Dflts.none hD hdf
  obtain rfl : kV = .none := Dflts.noKw hD
  obtain ⟨a, vs, ns, rfl, rfl, hobj, hints, hlen⟩ := script_of hn hpre hwl
  refine enter_call (codeAny_mono (call w s₀ s₁ mg mb fa o pm cd doc a vs ns G Y ho (fd_plain hd) hcd hmg hobj hints hlen hg) fun r s' hq => ?_)
  obtain ⟨rfl, h2, h3, h4⟩ := hq
  exact ⟨.inl ⟨.bool true, .bool true, [], rfl, fun _ => rfl, .bool true, post_true l _, fun _ => ⟨List.Pairwise.nil, fun _ hm => (nomatch hm)⟩⟩, h2, h3, h4⟩
section
variable {prog : Program} {w : World} {A : Around} {E : Value → Shared → Prop} {s : Shared} {K : Frag}
end
end Att
namespace L2
open PySem PySem.Spec PyProof.Rows
theorem vals_ints : ∀ {vs : List Value} {ns : List Int}, IntsAre vs ns → Vals (ns.map V.int) vs
  | _, _, .nil => .nil
  | _, _, .cons n t h => .cons ⟨t, rfl⟩ (vals_ints h)
def Only (H : Hp) : Prop := ∀ b, H b = none ∨ ∃ o xs, H b = some (.frz o (.lst xs))
theorem law_call {P : Program} {w : World} {K : PySem.W.Frag} {mg mb : Str → Option Value} {CX : CXT} {k : Nat} {fa a : Addr} {fd : FuncData} {x : Str} {sp : Sp} {s₁ : Shared} {vs : List Value} {ns : List Int}
    (KX : K.In s₁.heap) (hns : s₁.heap.Ns mainGlobals mg) (hb : s₁.heap.Ns builtinsNs mb) (hbb : ∀ x : Str, x ≠ "__name__" → mb x = bootBuiltins x) (hlim : s₁.heap.NoLimit) (hg : s₁.gens = #[])
    (ha : s₁.heap.get? a = some { cls := .type "list", data := .seq vs.toArray }) (hi : IntsAre vs ns) (hl : ns.length ≤ sizeLine) (hr : Room k callerA)
    (F : ∀ base : Heap, K.In base → base.Ns mainGlobals mg → FnOk P w K mg base CX k fa fd [x] sp) (hbind : ∀ (s : Shared) (u : Value), BindsTo s fd ⟨[u], []⟩ [(x, u)])
    (hsp : ∀ H : Hp, Only H → SqL K H a (ns.map V.int) → sp [.ref a] H (fun v _ => v = .bl true) fun _ _ _ => False)
    (hCX : ∀ H e s', CX [] H s₁ (fun _ _ _ => False) e s' → False) :
    codeAny (model P w) callerA (.call (.ref fa) ⟨[.ref a], []⟩) (fun r s' => r = .ok (.ret (.bool true)) ∧ OldK s₁.heap s'.heap ∧ s'.os = s₁.os ∧ AllBare s'.gens) s₁ := by
  have rv := vals_ints hi
  have lenV := hi.length
  -- from an abstract heap in which nothing but the script may be tracked
  have core : ∀ H : Hp, Only H → SqL K H a (ns.map V.int) → HOk P w H s₁.heap → (∀ b, H b ≠ none → b = a) → (H a ≠ none → K.lookup a = none) →
      codeAny (model P w) callerA (.call (.ref fa) ⟨[.ref a], []⟩) (fun r s' => r = .ok (.ret (.bool true)) ∧ OldK s₁.heap s'.heap ∧ s'.os = s₁.os ∧ AllBare s'.gens) s₁ := by
    intro H hO hS hok hA hK
    have base_of : ∀ {b : Addr} {o : Obj}, s₁.heap.get? b = some o → H b = none → (hidT s₁.heap H).get? b = some o := fun e n => hidT_get e n
    have noA : ∀ {b : Addr} {o : Obj} {es : Array DictEntry} {ep : Nat}, s₁.heap.get? b = some o → o.data = .dict es ep → H b = none := fun {b o es ep} e d => by
      cases q : H b with
      | none => rfl
      | some u =>
        have e' : b = a := hA b (by rw [q]; simp)
        subst e'
        rw [ha] at e; cases e
        have d' : Data.seq vs.toArray _ = Data.dict es ep := d
        cases d'
    have nsK : ∀ {b : Addr} {m : Str → Option Value}, s₁.heap.Ns b m → (hidT s₁.heap H).Ns b m := fun {b m} ⟨o, es, ep, e, d, r⟩ => ⟨o, es, ep, base_of e (noA e d), d, r⟩
    have hKb : K.In (hidT s₁.heap H) := fun b o e => base_of (KX b o e) (by
      cases q : H b with
      | none => rfl
      | some u =>
        have e' : b = a := hA b (by rw [q]; simp)
        subst e'
        rw [hK (by rw [q]; simp)] at e; cases e)
    have hM : Mod K mg (hidT s₁.heap H) := ⟨hKb, nsK hns, ⟨mb, nsK hb, hbb⟩, let ⟨mc, h1, h2⟩ := hlim; ⟨mc, nsK h1, h2⟩⟩
    have e0 : Env0 P w K mg (hidT s₁.heap H) callerA [] s₁ H := ⟨rfl, hM, fun b o e => of_hidT e, Nat.le_of_eq (hidT_size _ _), trivial, fun b hb => absurd (show b ∈ ([] : List Addr) from hb) (by simp), hok, .of_eq hg⟩
    refine codeAny_mono ((F _ hKb (nsK hns)).run callerA [] s₁ H ⟨[.ref a], []⟩ [.ref a] [.ref a] _ _ hr e0 (hbind s₁ (.ref a)) (.cons rfl .nil) (hsp H hO hS)) fun r s' h => ?_
    cases r with
    | error e => exact (hCX H e s' h).elim
    | ok fl =>
      cases fl with
      | next => exact False.elim h
      | brk => exact False.elim h
      | cont => exact False.elim h
      | ret u =>
        obtain ⟨v, H', os, bare, un, hok', r', q⟩ := h
        have q' : v = .bl true := q
        subst q'
        obtain rfl : u = Value.bool true := r'
        refine ⟨rfl, OldK.of_keep fun b o e => ?_, os, bare⟩
        cases q : H b with
        | none => exact un.keep b o e q (by intro z; exact absurd (show b ∈ ([] : List Addr) from z) (by simp)) (by simp)
        | some u =>
          rcases hO b with z | ⟨ob, xs, z⟩
          · rw [q] at z; cases z
          · have z2 := un.frzs b ob _ z
            obtain ⟨e1, _⟩ := hok b _ z
            obtain ⟨e2, _⟩ := hok' b _ z2
            rw [e] at e1; cases e1
            exact e2
  cases hk : K.lookup a with
  | some o =>
    -- the script is one of the module's own objects
    have e := KX a o hk
    rw [ha] at e
    cases e
    refine core (fun _ => none) (fun _ => .inl rfl) (.inr ⟨_, vs.toArray, _, hk, rfl, rfl, rfl, by rw [List.size_toArray, lenV]; exact hl, by simpa using rv⟩) (fun b u z => by have z' : (none : Option HO) = some u := z; cases z') (fun b z => absurd rfl z) fun z => absurd rfl z
  | none =>
    refine core (fun b => if b = a then some (.frz { cls := .type "list", data := .seq vs.toArray } (.lst (ns.map V.int))) else none) (fun b => ?_) (.inl (.inr ⟨{ cls := .type "list", data := .seq vs.toArray }, if_pos rfl⟩)) (fun b u z => ?_) (fun b z => ?_) fun _ => hk
    · by_cases hb : b = a
      · exact .inr ⟨_, _, if_pos hb⟩
      · exact .inl (if_neg hb)
    · by_cases hb : b = a
      · have z' := (if_pos hb).symm.trans z
        cases z'
        subst hb
        exact ⟨ha, by rw [List.length_map]; exact hl, vs, _, rv, ha⟩
      · have z' := (if_neg hb).symm.trans z
        cases z'
    · by_cases hb : b = a
      · exact hb
      · exact absurd (if_neg hb) z
end L2
namespace L2
open PySem PySem.Spec PyProof.Rows
theorem walk_of {l : PySem.W.OpenLaw} {n k : Nat} {q : Program} {loose : List Str} {XP : (Str → Option Value) → Heap → Prop} {YP : World → Heap → Prop} {d : DefRec} {K : Params → PySem.W.Frag} {CX : World → CXT} {sp : World → Sp} {x : Str}
    (hn : l.most = some n) (hn2 : n ≤ sizeLine) (hdf : d.params.defaults = []) (hr : Room k callerA)
    (hY : ∀ (w : World) (h : Heap), YP w h → (K w.params).In h)
    (F : ∀ (w : World) (mg : Str → Option Value) (fa : Addr) (h : Heap), (K w.params).In h → h.Ns mainGlobals mg → mg d.name = some (.ref fa) →
      ∃ fd : FuncData, (∀ (s : Shared) (u : Value), BindsTo s fd ⟨[u], []⟩ [(x, u)]) ∧
        ∀ base : Heap, (K w.params).In base → base.Ns mainGlobals mg → FnOk l.prog w (K w.params) mg base (CX w) k fa fd [x] (sp w))
    (hsp : ∀ (w : World) (H : Hp) (a : Addr) (ns : List Int), ns.length ≤ n → Only H → SqL (K w.params) H a (ns.map V.int) → sp w [.ref a] H (fun v _ => v = .bl true) fun _ _ _ => False)
    (hCX : ∀ (w : World) (H : Hp) (s : Shared) (e : Value) (s' : Shared), CX w [] H s (fun _ _ _ => False) e s' → False) :
    PySem.W.WalkO q loose XP YP l.row.toRowW d [] (fun f vs => PySem.call f vs) := by
  refine Att.attach_call hn hdf fun w s₀ s₁ mg mb fa o pm cd doc a vs ns G Y ho hd hcd hmg hobj hints hlen hg => ?_
  have KX := hY w _ Y
  obtain ⟨fd, hb, hF⟩ := F w mg fa _ KX G.T.g hmg
  exact law_call KX G.T.g G.T.b G.T.builtins G.T.nolimit hg hobj hints (Nat.le_trans hlen hn2) hr hF hb (fun H hO hS => hsp w H a ns hlen hO hS) fun H e s' => hCX w H s₁ e s'
end L2
namespace L2
open PySem PySem.Spec PyProof.Rows
def defArgs (s : Stmt) : Arguments := match s with
  | .FunctionDef _ a _ _ _ _ _ _ _ _ => a
  | _ => { posonlyargs := [], args := [], vararg := none, kwonlyargs := [], kw_defaults := [], kwarg := none, defaults := [] }
def defBody (s : Stmt) : List Stmt := match s with
  | .FunctionDef _ _ b _ _ _ _ _ _ _ => b
  | _ => []
def defScope (s : Stmt) : Scope := match s with
  | .FunctionDef _ _ _ _ _ _ sc _ _ _ => sc
  | _ => { kind := .function, names := [], isGenerator := false, isCoroutine := false }
abbrev CX0 : CXT := fun _ _ _ _ _ _ => False
abbrev E0 : XK := fun _ _ _ => False
theorem pass0 {X : Cx} : Passes CX0 X E0 := fun _ _ _ _ _ _ _ h => h.elim
structure Fun (K : PySem.W.Frag) (x qual : Str) (st : Stmt) (f : Addr) (fd : FuncData) : Prop where
  ex : ∃ (oc : Value) (od : Option Addr) (kV doc pm : Value) (an : Option Addr) (cdv ct : Value) (osl : Array (Option Value)),
    fd = PySem.W.fnOf x qual (defArgs st) (defBody st) (defScope st) .none kV doc pm an cdv ct ∧ K.lookup f = some ⟨oc, od, .func fd, osl⟩ ∧ PySem.W.codeIn K cdv qual = true
  kp : PySem.W.keepIn K (.ref f) = true
section
variable {P : Program} {w : World} {K : PySem.W.Frag} {mg : Str → Option Value} {base : Heap}
theorem Fun.ok {x qual : Str} {st : Stmt} {f : Addr} {fd : FuncData} {N ps : List Str} {k : Nat} {sp : Sp} (F : Fun K x qual st f fd) (S : FnScope N ps (defScope st)) (len : ∀ vs H Q E, sp vs H Q E → vs.length = ps.length)
    (hbody : ∀ (cdv : Value) (A : Around) (outer : List Env) (s : Shared) (H : Hp) (vs : List V) (Q : VK) (E : XK), Room k (A.deeper (envOfC qual (defScope st) s.heap.objs.size f cdv)) → sp vs H Q E →
      ∃ t, PSs (cxOf CX0 P w K mg base N qual (defScope st) f cdv A outer s H E).nox (defBody st) t ∧ t { nx := fun _ H' => Q .non H', rt := Q } (start N vs) H) : FnOk P w K mg base CX0 (k + 1) f fd ps sp := by
  obtain ⟨oc, od, kV, doc, pm, an, cdv, ct, osl, rfl, lk, hcd⟩ := F.ex
  refine fn_of lk hcd S len fun A outer s H vs Q E hr hsp => ?_
  obtain ⟨t, h, q⟩ := hbody cdv A outer s H vs Q E hr hsp
  exact ⟨t, h.nox, q⟩
theorem Fun.binds {x qual : Str} {st : Stmt} {f : Addr} {fd : FuncData} {ps : List Str} (F : Fun K x qual st f fd)
    (h : ∀ (kV doc pm : Value) (an : Option Addr) (cdv ct : Value) (us : List Value), us.length = ps.length → bindArgs (PySem.W.fnOf x qual (defArgs st) (defBody st) (defScope st) .none kV doc pm an cdv ct) ⟨us, []⟩ = pure (ps.zip us)) : Binds K fd ps [] := by
  obtain ⟨oc, od, kV, doc, pm, an, cdv, ct, osl, rfl, lk, hcd⟩ := F.ex
  exact .all (h kV doc pm an cdv ct)
theorem fun_mk {x qual : Str} {st : Stmt} {f : Addr} {oc : Value} {od an : Option Addr} {osl : Array (Option Value)} {kV doc pm cdv ct : Value} (l : K.lookup f = some ⟨oc, od, .func (PySem.W.fnOf x qual (defArgs st) (defBody st) (defScope st) .none kV doc pm an cdv ct), osl⟩)
    (c : PySem.W.codeIn K cdv qual = true) (k : PySem.W.keepIn K (.ref f) = true) : Fun K x qual st f (PySem.W.fnOf x qual (defArgs st) (defBody st) (defScope st) .none kV doc pm an cdv ct) := ⟨⟨oc, od, kV, doc, pm, an, cdv, ct, osl, rfl, l, c⟩, k⟩
end
theorem hu_of {A : Around} {k : Nat} (hr : Room k A) : A.units + 1 < cLine := Nat.lt_of_le_of_lt (Nat.add_le_add_left (by decide : 1 ≤ 64) _) hr.units
theorem small1000 {n : Nat} (h : n ≤ 1000) : n < sizeLine := Nat.lt_of_le_of_lt h (by decide)
section
variable {X : Cx}
theorem pv (i : Nat) {x : Str} {pos : Pos} (hN : X.N[i]? = some x := by rfl) (hv : Vis X.env.scope x := by first | exact Or.inl rfl | exact Or.inr (Or.inl rfl) | exact Or.inr (Or.inr rfl)) (hd : (x == ("__debug__" : Str)) = false := by decide)
    (hcd : (x == ("__classdict__" : Str)) = false := by decide) : PE X (.Name x pos) (tVar i) := pe_var hN hv hd hcd
end
theorem ite2 {c A B : Prop} [Decidable c] (h1 : c → A) (h2 : ¬ c → B) : if c then A else B := by
  by_cases h : c
  · rw [if_pos h]
    exact h1 h
  · rw [if_neg h]
    exact h2 h
def Same (H H' : Hp) : Prop := ∀ b o, H b = some o → H' b = some o
theorem Same.refl (H : Hp) : Same H H := fun _ _ h => h
theorem Same.trans {H H1 H2 : Hp} (a : Same H H1) (b : Same H1 H2) : Same H H2 := fun c o h => b c o (a c o h)
theorem Same.free {H H' : Hp} (e : Same H H') {l : Addr} (h : H' l = Option.none) : H l = Option.none := by
  cases q : H l with
  | none => rfl
  | some o =>
    rw [e l o q] at h
    cases h
theorem Same.seq {K : PySem.W.Frag} {H H' : Hp} {a : Addr} {xs : List V} (e : Same H H') (h : SqL K H a xs) : SqL K H' a xs := by
  rcases h with (h | ⟨o, h⟩) | h
  · exact .inl (.inl (e _ _ h))
  · exact .inl (.inr ⟨o, e _ _ h⟩)
  · exact .inr h
end L2
namespace L2
open PySem PySem.Spec PyProof.Rows
section
variable {X : Cx}
end
end L2
namespace L2
open PySem PySem.Spec PyProof.Rows
section
variable {κ : Type} [DecidableEq κ]
end
end L2
set_option Elab.async false
set_option linter.all false
set_option maxRecDepth 100000
namespace L2
open PySem PySem.Spec PyProof.Rows
section
variable {σ : St} {H : Hp} {Q : VK} {D : Ends}
theorem w_var {i : Nat} : tVar i σ H Q = ∃ v, σ[i]? = some (some v) ∧ Q v H := rfl
theorem w_C {v : V} : tC v σ H Q = Q v H := rfl
theorem w_op {r : R2} {ta tb : TE} : tOp r ta tb σ H Q = ta σ H fun x H1 => tb σ H1 fun y H2 => r x y H2 Q := rfl
theorem w_un {r : V → Hp → VK → Prop} {ta : TE} : tUn r ta σ H Q = ta σ H fun x H1 => r x H1 Q := rfl
theorem w_rI {C : Int → Int → Prop} {g : Int → Int → V} {i j : Int} : rI C g (.int i) (.int j) H Q = (C i j ∧ Q (g i j) H) :=
  propext ⟨fun ⟨a, b, e1, e2, c, q⟩ => by cases e1; cases e2; exact ⟨c, q⟩, fun ⟨c, q⟩ => ⟨i, j, rfl, rfl, c, q⟩⟩
theorem w_rI0 {g : Int → Int → V} {i j : Int} : rI0 g (.int i) (.int j) H Q = Q (g i j) H :=
  propext ⟨fun ⟨a, b, e1, e2, q⟩ => by cases e1; cases e2; exact q, fun q => ⟨i, j, rfl, rfl, q⟩⟩
theorem w_rU {g : Int → V} {i : Int} : rU g (.int i) H Q = Q (g i) H :=
  propext ⟨fun ⟨a, e1, q⟩ => by cases e1; exact q, fun q => ⟨i, rfl, q⟩⟩
theorem w_eqI {i j : Int} : rEq (.int i) (.int j) H Q = Q (.bl (decide (i = j))) H :=
  propext (by
    have e : decide (V.int i = V.int j) = decide (i = j) := by by_cases h : i = j <;> simp [h]
    unfold rEq; rw [e]; exact ⟨fun h => h.2, fun h => ⟨rfl, h⟩⟩)
theorem w_neI {i j : Int} : rNe (.int i) (.int j) H Q = Q (.bl (!decide (i = j))) H :=
  propext (by
    have e : decide (V.int i = V.int j) = decide (i = j) := by by_cases h : i = j <;> simp [h]
    unfold rNe; rw [e]; exact ⟨fun h => h.2, fun h => ⟨rfl, h⟩⟩)
theorem w_seq {t u : TS} : tSeq t u D σ H = t { D with nx := u D } σ H := rfl
theorem w_next : tNext D σ H = D.nx σ H := rfl
theorem w_break : tBreak D σ H = D.bk σ H := rfl
theorem w_cont : tCont D σ H = D.ct σ H := rfl
theorem w_ifS {c : TT} {t u : TS} : tIfS c t u D σ H = c σ H fun b H1 => if b = true then t D σ H1 else u D σ H1 := rfl
theorem w_ret {te : TE} : tRet te D σ H = te σ H D.rt := rfl
theorem w_retN : tRetN D σ H = D.rt .non H := rfl
theorem w_drop {te : TE} : tDrop te D σ H = te σ H fun _ H1 => D.nx σ H1 := rfl
theorem w_asg {te : TE} {g : TG} : tAsg te g D σ H = te σ H fun x H1 => g x σ H1 D.nx := rfl
theorem w_gName {i : Nat} {v : V} {R : St → Hp → Prop} : gName i v σ H R = R (σ.set i (some v)) H := rfl
theorem w_gSub {to ti : TE} {t : TSet} {v : V} {R : St → Hp → Prop} : gSub to ti t v σ H R = to σ H fun o H1 => ti σ H1 fun i H2 => t o i v H2 fun H3 => R σ H3 := rfl
theorem w_test {t : TE} {R : Bool → Hp → Prop} : tTest t σ H R = t σ H fun x H' => ∃ k, x = .bl k ∧ R k H' := rfl
theorem w_B {t : TE} {R : Bool → Hp → Prop} : tB t σ H R = t σ H fun x H' => ∃ k, x = .bl k ∧ R k H' := rfl
theorem w_and {t u : TT} {R : Bool → Hp → Prop} : tAnd t u σ H R = t σ H fun c H1 => if c = true then u σ H1 R else R false H1 := rfl
theorem w_or {t u : TT} {R : Bool → Hp → Prop} : tOr t u σ H R = t σ H fun c H1 => if c = true then R true H1 else u σ H1 R := rfl
theorem w_not {t : TT} {R : Bool → Hp → Prop} : tNot t σ H R = t σ H fun c H1 => R (!c) H1 := rfl
theorem w_andV {ta tb : TE} : tAndV ta tb σ H Q = ta σ H fun x H1 => ∃ c, x = .bl c ∧ if c = true then tb σ H1 Q else Q (.bl false) H1 := rfl
theorem w_orV {ta tb : TE} : tOrV ta tb σ H Q = ta σ H fun x H1 => ∃ c, x = .bl c ∧ if c = true then Q (.bl true) H1 else tb σ H1 Q := rfl
theorem w_notV {ta : TE} : tNotV ta σ H Q = ta σ H fun x H1 => ∃ c, x = .bl c ∧ Q (.bl (!c)) H1 := rfl
theorem w_if {t : TT} {ta tb : TE} : tIf t ta tb σ H Q = t σ H fun c H1 => if c = true then ta σ H1 Q else tb σ H1 Q := rfl
theorem w_call {sp : Sp} {dvs : List V} {E : XK} {t : TA} : tCall sp dvs E t σ H Q = t σ H fun vs H1 => sp (vs ++ dvs) H1 Q E := rfl
theorem w_nil {R : List V → Hp → Prop} : tNil σ H R = R [] H := rfl
theorem w_cons {ta : TE} {tr : TA} {R : List V → Hp → Prop} : tCons ta tr σ H R = ta σ H fun x H1 => tr σ H1 fun xs H2 => R (x :: xs) H2 := rfl
theorem w_CB {r : List V → Hp → VK → Prop} {t : TA} : tCB r t σ H Q = t σ H fun vs H1 => r vs H1 Q := rfl
theorem w_lst {t : TA} : tLst t σ H Q = t σ H fun xs H1 => xs.length ≤ sizeLine ∧ ∀ p, H1 p = none → Q (.ref p) (upd H1 p (.lst xs)) := rfl
theorem w_tup {t : TA} : tTup t σ H Q = t σ H fun xs H1 => xs.length ≤ sizeLine ∧ ∀ p, H1 p = none → Q (.ref p) (upd H1 p (.tup xs)) := rfl
theorem w_isN {ta : TE} : tIsN ta σ H Q = ta σ H fun x H1 => Q (.bl (decide (x = .non))) H1 := rfl
theorem w_notN {ta : TE} : tNotN ta σ H Q = ta σ H fun x H1 => Q (.bl (!decide (x = .non))) H1 := rfl
theorem w_chain {r r' : R2} {ta tb tc : TE} : tChain r r' ta tb tc σ H Q = (ta σ H fun x H1 => tb σ H1 fun y H2 => r x y H2 fun z H3 => ∃ k, z = .bl k ∧
  if k = true then tc σ H3 fun w H4 => r' y w H4 Q else Q (.bl false) H3) := by first | rfl | (unfold tChain; rfl)
end
section
variable {X : Cx} {st : Stmt} {rest : List Stmt} {t u : TS}
def tMid (t u : TS) : TS := fun D σ H => ∃ mid : St → Hp → Prop, t { D with nx := mid } σ H ∧ ∀ σ' H', mid σ' H' → u D σ' H'
theorem pss_mid (h1 : PS X st t) (h2 : PSs X rest u) : PSs X (st :: rest) (tMid t u) := by
  intro pins s σ H D I h
  obtain ⟨mid, q, k⟩ := h
  refine wpAny_execs_cons (thn (h1 pins s σ H { D with nx := mid } I q) fun f s1 q => ?_)
  cases f with
  | next =>
    obtain ⟨σ', H', I', q⟩ := q
    exact h2 pins s1 σ' H' D I' (k _ _ q)
  | ret v => exact q
  | brk => exact q
  | cont => exact q
end
structure Cal (P : Program) (w : World) (K : PySem.W.Frag) (mg : Str → Option Value) (base : Heap) (k : Nat) (x : Str) (ps : List Str) (sp : Sp) : Prop where
  ex : ∃ (f : Addr) (fd : FuncData), FnOk P w K mg base CX0 k f fd ps sp ∧ mg x = some (.ref f) ∧ PySem.W.keepIn K (.ref f) = true ∧ Binds K fd ps []
theorem Cal.mono {P : Program} {w : World} {K : PySem.W.Frag} {mg : Str → Option Value} {base : Heap} {j k : Nat} {x : Str} {ps : List Str} {sp : Sp} (C : Cal P w K mg base j x ps sp) (h : j ≤ k) : Cal P w K mg base k x ps sp := by
  obtain ⟨f, fd, a, b, c, d⟩ := C.ex
  exact ⟨f, fd, a.mono h, b, c, d⟩
section
variable {X : Cx} {k : Nat} {x : Str} {ps : List Str} {sp : Sp} {e : Expr} {es : List Expr} {t : TA} {p pos : Pos}
theorem pe_cal (C : Cal X.prog X.w X.K X.mg X.base k x ps sp) (hr : Room k X.A) (hg : Gl X x) (ha : PA X (e :: es) t) (hd : (x == ("__debug__" : Str)) = false := by decide)
    (he : starEach (e :: es) X.env = (false, eval e X.env) :: starEach es X.env := by rfl) (hpl : (backTo pos (starEach es X.env)).any (·.1) = false := by rfl) : PE X (.Call (.Name x p) (e :: es) [] pos) (tCall sp [] E0 t) := by
  obtain ⟨f, fd, a, b, c, d⟩ := C.ex
  exact pe_call a hr hg b c d .nil pass0 ha hd he hpl
end
theorem bits_le {i : Int} {n : Nat} (h : i.natAbs < 2 ^ n) : Builtin.Int.intBits i ≤ n := by
  unfold Builtin.Int.intBits
  split
  · exact Nat.zero_le _
  · rename_i h0
    have hp : i.natAbs ≠ 0 := by
      intro z
      exact h0 (by simpa using z)
    have : i.natAbs.log2 < n := (Nat.log2_lt hp).mpr h
    omega
def CShl (i j : Int) : Prop := 0 ≤ j ∧ j ≤ 1000000 ∧ Builtin.Int.intBits i ≤ 1000000
def CDivB (i j : Int) : Prop := 0 < j ∧ j.natAbs.log2 < 9000
section
variable {X : Cx}
theorem op_shlB : OpR X (binaryOp .LShift) (rI CShl fun i j => .int (i * 2 ^ j.toNat)) := opI fun i j _ _ _ _ _ hc q => lshift_int hc.1 (by have h1 := hc.2.1; have h2 := hc.2.2; omega) q
theorem op_mulB : OpR X (binaryOp .Mult) (rI IntMulOk fun i j => .int (i * j)) := opI fun _ _ _ _ _ _ _ hc q => mul_int q hc
theorem op_fdivB : OpR X (binaryOp .FloorDiv) (rI CDivB fun i j => .int (i / j)) := opI fun i j _ _ _ _ _ hc q => by
  have e : i / j = i.fdiv j := (Int.fdiv_eq_ediv_of_nonneg i (Int.le_of_lt hc.1)).symm
  rw [e] at q
  exact floordiv_int (by have := hc.1; omega) q (.inl (PyProof.noPylong_of_log2 hc.2))
def rIsI (K : PySem.W.Frag) : List V → Hp → VK → Prop := fun xs H Q => ∃ x T t b, xs = [x, .ty T] ∧ TyOf K H x t ∧ PySem.W.kitOne K t (.type T) = some b ∧ Q (.bl b) H
theorem call_isI : CallR X (.builtin "isinstance") (rIsI X.K) := by
  intro pins s σ H xs us Q I r h
  obtain ⟨x, T, t, b, rfl, ty, e, q⟩ := h
  obtain ⟨u1, u2, rfl, r1, r2⟩ := Vals.two r
  cases r2
  exact isinst_ok I r1 ty e fun tk => ⟨.bl b, H, I.tok _, rfl, q⟩
end
theorem mul_l {i j : Int} (h1 : -(2 ^ 64) < i) (h2 : i < 2 ^ 64) : IntMulOk i j := .of_left (intBits_le_64 h1 h2)
theorem mul_r {i j : Int} (h1 : -(2 ^ 64) < j) (h2 : j < 2 ^ 64) : IntMulOk i j := .of_right (intBits_le_64 h1 h2)
theorem kit_same {K : PySem.W.Frag} (T : String) : PySem.W.kitOne K (.type T) (.type T) = some true := by unfold PySem.W.kitOne; rw [if_pos (by simp)]
theorem kit_int_bool {K : PySem.W.Frag} : PySem.W.kitOne K (.type "int") (.type "bool") = some false := by first | rfl | decide +kernel | (unfold PySem.W.kitOne PySem.W.kitCls; decide +kernel)
theorem kit_bool_int {K : PySem.W.Frag} : PySem.W.kitOne K (.type "bool") (.type "int") = some true := by first | rfl | decide +kernel
theorem kit_non_int {K : PySem.W.Frag} : PySem.W.kitOne K (.type "NoneType") (.type "int") = some false := by first | rfl | decide +kernel
theorem kit_str_int {K : PySem.W.Frag} : PySem.W.kitOne K (.type "str") (.type "int") = some false := by first | rfl | decide +kernel
end L2
set_option Elab.async false
set_option linter.all false
set_option maxRecDepth 100000
namespace L2
open PySem PySem.Spec PyProof.Rows
theorem bo_len : bootBuiltins "len" = some (.builtin "len") := by decide +kernel
theorem bo_abs : bootBuiltins "abs" = some (.builtin "abs") := by decide +kernel
theorem bo_min : bootBuiltins "min" = some (.builtin "min") := by decide +kernel
theorem bo_max : bootBuiltins "max" = some (.builtin "max") := by decide +kernel
theorem bo_sum : bootBuiltins "sum" = some (.builtin "sum") := by decide +kernel
theorem bo_all : bootBuiltins "all" = some (.builtin "all") := by decide +kernel
theorem bo_sorted : bootBuiltins "sorted" = some (.builtin "sorted") := by decide +kernel
theorem bo_isinstance : bootBuiltins "isinstance" = some (.builtin "isinstance") := by decide +kernel
theorem bo_int : bootBuiltins "int" = some (.type "int") := by decide +kernel
theorem bo_bool : bootBuiltins "bool" = some (.type "bool") := by decide +kernel
theorem bo_list : bootBuiltins "list" = some (.type "list") := by decide +kernel
theorem bo_reversed : bootBuiltins "reversed" = some (.type "reversed") := by decide +kernel
def CPowB (i j : Int) : Prop := 0 ≤ j ∧ j ≤ 1000000 ∧ -(2 ^ 64) < i ∧ i < 2 ^ 64
section
variable {X : Cx}
theorem op_powB : OpR X (binaryOp .Pow) (rI CPowB fun i j => .int (i ^ j.toNat)) := opI fun i j _ _ _ _ _ hc q => pow_int_small hc.1 hc.2.1 (by have h1 := hc.2.2.1; have h2 := hc.2.2.2; omega) q
end
theorem w_shl1 {j : Int} : CShl 1 j = (0 ≤ j ∧ j ≤ 1000000) := propext ⟨fun h => ⟨h.1, h.2.1⟩, fun h => ⟨h.1, h.2, Nat.le_trans (bits_le (n := 1) (by decide)) (by decide)⟩⟩
theorem divB {i j : Int} (h : 0 < j) (h2 : j < 2 ^ 64) : CDivB i j := ⟨h, by
  have e : j.natAbs < 2 ^ 64 := by omega
  have e2 : j.natAbs ≠ 0 := by omega
  have := (Nat.log2_lt e2).mpr e
  omega⟩
section
variable {P : Program} {w : World} {K : PySem.W.Frag} {mg : Str → Option Value} {base : Heap}
theorem mkCal {x qual : Str} {st : Stmt} {N ps : List Str} {k : Nat} {sp : Sp} (T : ∃ (f : Addr) (fd : FuncData), Fun K x qual st f fd ∧ mg x = some (.ref f) ∧ Binds K fd ps []) (S : FnScope N ps (defScope st)) (len : ∀ vs H Q E, sp vs H Q E → vs.length = ps.length)
    (hbody : ∀ (f : Addr) (cdv : Value) (A : Around) (outer : List Env) (s : Shared) (H : Hp) (vs : List V) (Q : VK) (E : XK), Room k (A.deeper (envOfC qual (defScope st) s.heap.objs.size f cdv)) → sp vs H Q E →
      ∃ t, PSs (cxOf CX0 P w K mg base N qual (defScope st) f cdv A outer s H E).nox (defBody st) t ∧ t { nx := fun _ H' => Q .non H', rt := Q } (start N vs) H) : Cal P w K mg base (k + 1) x ps sp := by
  obtain ⟨f, fd, F, m, b⟩ := T
  exact ⟨f, fd, F.ok S len fun cdv A outer s H vs Q E hr h => hbody f cdv A outer s H vs Q E hr h, m, F.kp, b⟩
end
def Chg (p : Addr) (H H' : Hp) : Prop := ∀ b o, b ≠ p → H b = some o → H' b = some o
theorem Chg.refl {p : Addr} {H : Hp} : Chg p H H := fun _ _ _ h => h
theorem Chg.trans {p : Addr} {H H1 H2 : Hp} (a : Chg p H H1) (b : Chg p H1 H2) : Chg p H H2 := fun c o n h => b c o n (a c o n h)
theorem Same.chg {p : Addr} {H H' : Hp} (h : Same H H') : Chg p H H' := fun b o _ q => h b o q
theorem Chg.upd {p : Addr} {H : Hp} (o : HO) : Chg p H (upd H p o) := fun b u n q => by rw [upd_ne n]; exact q
theorem same_new {H : Hp} {p : Addr} (h : H p = none) (o : HO) : Same H (upd H p o) := fun b u q => by rw [upd_ne (ne_of_none q h)]; exact q
def Scr (K : PySem.W.Frag) (H : Hp) (a : Addr) (ns : List Int) : Prop :=
  (∃ o, H a = some (.frz o (.lst (ns.map V.int)))) ∨ (∃ (o : Obj) (its : Array Value) (n : Nat), K.lookup a = some o ∧ o.cls = .type "list" ∧ o.dict = none ∧ o.data = .seq its n ∧ its.size ≤ sizeLine ∧ Vals (ns.map V.int) its.toList)
section
variable {K : PySem.W.Frag} {H H' : Hp} {a p : Addr} {ns : List Int}
theorem Scr.sq (h : Scr K H a ns) : SqL K H a (ns.map V.int) := by
  rcases h with h | h
  · exact .inl (.inr h)
  · exact .inr h
theorem scr_of (hO : Only H) (hS : SqL K H a (ns.map V.int)) : Scr K H a ns := by
  rcases hS with (h | h) | h
  · rcases hO a with z | ⟨o, xs, z⟩
    · rw [z] at h; cases h
    · rw [z] at h; cases h
  · exact .inl h
  · exact .inr h
theorem Scr.same (h : Scr K H a ns) (s : Same H H') : Scr K H' a ns := by
  rcases h with ⟨o, h⟩ | h
  · exact .inl ⟨o, s _ _ h⟩
  · exact .inr h
theorem Scr.chgD {kvs : List (Key × V)} (h : Scr K H a ns) (hp : H p = some (.dK kvs)) (s : Chg p H H') : Scr K H' a ns := by
  rcases h with ⟨o, h⟩ | h
  · exact .inl ⟨o, s _ _ (ne_of h hp (by intro z; cases z)) h⟩
  · exact .inr h
end
def spLaw (K : PySem.W.Frag) : Sp := fun vs H Q _ => ∃ (a : Addr) (ns : List Int), vs = [.ref a] ∧ Scr K H a ns ∧ ns.length ≤ 63 ∧ ∀ H', Q (.bl true) H'
theorem atI_int {ns : List Int} {i : Int} (h0 : 0 ≤ i) (h1 : i < (ns.length : Int)) : ∃ v : Int, atI (ns.map V.int) i = some (.int v) ∧ ns[i.toNat]? = some v := by
  have hk : i.toNat < ns.length := by omega
  have e : i = ((i.toNat : Nat) : Int) := by omega
  have q : atI (ns.map V.int) ((i.toNat : Nat) : Int) = some (.int ns[i.toNat]) := atI_nat (by rw [List.getElem?_map, List.getElem?_eq_getElem hk] <;> rfl)
  rw [← e] at q
  exact ⟨ns[i.toNat], q, List.getElem?_eq_getElem hk⟩
def lim : Nat → Int
  | 0 => 11
  | n + 1 => 1000000 * (lim n - 1)
def rIxM : R2 := fun x y H Q => ∃ p xs i v, x = .ref p ∧ y = .int i ∧ H p = some (.lst xs) ∧ atI xs i = some v ∧ Q v H
def rIxU : R2 := fun x y H Q => ∃ p xs i v, x = .ref p ∧ y = .int i ∧ H p = some (.tup xs) ∧ atI xs i = some v ∧ Q v H
section
variable {X : Cx}
theorem IxR.mono {r r' : R2} (h : IxR X r) (m : ∀ x y H Q, r' x y H Q → r x y H Q) : IxR X r' := fun va sl pins s σ H x y v u Q I rx ry q hs => h va sl pins s σ H x y v u Q I rx ry (m _ _ _ _ q) hs
theorem ix_M : IxR X rIxM := ix_list.mono fun x y H Q ⟨p, xs, i, v, e1, e2, h, a, q⟩ => ⟨p, xs, i, v, e1, e2, SqL.of h, a, q⟩
theorem ix_U : IxR X rIxU := ix_tup.mono fun x y H Q ⟨p, xs, i, v, e1, e2, h, a, q⟩ => ⟨p, xs, i, v, e1, e2, SqT.of h, a, q⟩
theorem CallR.mono {f : Value} {r r' : List V → Hp → VK → Prop} (h : CallR X f r) (m : ∀ xs H Q, r' xs H Q → r xs H Q) : CallR X f r' := fun pins s σ H xs us Q I rx q => h pins s σ H xs us Q I rx (m _ _ _ q)
theorem call_lenM : CallR X (.builtin "len") (fun xs H Q => ∃ p ys, xs = [.ref p] ∧ H p = some (.lst ys) ∧ Q (.int ys.length) H) := call_len_seq.mono fun xs H Q ⟨p, ys, e, h, q⟩ => ⟨p, ys, e, .inl (SqL.of h), q⟩
theorem call_lenS : CallR X (.builtin "len") (fun xs H Q => ∃ p ys, xs = [.ref p] ∧ SqL X.K H p ys ∧ Q (.int ys.length) H) := call_len_seq.mono fun xs H Q ⟨p, ys, e, h, q⟩ => ⟨p, ys, e, .inl h, q⟩
end
section
variable {H : Hp} {Q : VK}
theorem w_ixM {p : Addr} {i : Int} : rIxM (.ref p) (.int i) H Q = ∃ xs, H p = some (.lst xs) ∧ ∃ v, atI xs i = some v ∧ Q v H :=
  propext ⟨fun ⟨p', xs, i', v, e1, e2, h, a, q⟩ => by cases e1; cases e2; exact ⟨xs, h, v, a, q⟩, fun ⟨xs, h, v, a, q⟩ => ⟨p, xs, i, v, rfl, rfl, h, a, q⟩⟩
theorem w_ixU {p : Addr} {i : Int} : rIxU (.ref p) (.int i) H Q = ∃ xs, H p = some (.tup xs) ∧ ∃ v, atI xs i = some v ∧ Q v H :=
  propext ⟨fun ⟨p', xs, i', v, e1, e2, h, a, q⟩ => by cases e1; cases e2; exact ⟨xs, h, v, a, q⟩, fun ⟨xs, h, v, a, q⟩ => ⟨p, xs, i, v, rfl, rfl, h, a, q⟩⟩
theorem w_ixL {K : PySem.W.Frag} {p : Addr} {i : Int} : rIxL K (.ref p) (.int i) H Q = ∃ xs, SqL K H p xs ∧ ∃ v, atI xs i = some v ∧ Q v H :=
  propext ⟨fun ⟨p', xs, i', v, e1, e2, h, a, q⟩ => by cases e1; cases e2; exact ⟨xs, h, v, a, q⟩, fun ⟨xs, h, v, a, q⟩ => ⟨p, xs, i, v, rfl, rfl, h, a, q⟩⟩
theorem w_setL {p : Addr} {k : Int} {v : V} {R : Hp → Prop} : rSetL (.ref p) (.int k) v H R = ∃ xs, H p = some (.lst xs) ∧ ∃ j, ixN xs.length k = some j ∧ R (upd H p (.lst (xs.set j v))) :=
  propext ⟨fun ⟨p', xs, k', j, e1, e2, h, a, q⟩ => by cases e1; cases e2; exact ⟨xs, h, j, a, q⟩, fun ⟨xs, h, j, a, q⟩ => ⟨p, xs, k, j, rfl, rfl, h, a, q⟩⟩
end
theorem at_0 {α : Type} {a : α} {l : List α} : atI (a :: l) 0 = some a := atI_nat (j := 0) rfl
theorem at_1 {α : Type} {a b : α} {l : List α} : atI (a :: b :: l) 1 = some b := atI_nat (j := 1) rfl
theorem at_2 {α : Type} {a b c : α} {l : List α} : atI (a :: b :: c :: l) 2 = some c := atI_nat (j := 2) rfl
theorem at_3 {α : Type} {a b c d : α} {l : List α} : atI (a :: b :: c :: d :: l) 3 = some d := atI_nat (j := 3) rfl
theorem ixN_0 {n : Nat} : ixN (n + 1) 0 = some 0 := by unfold ixN; rw [if_pos (Int.le_refl 0), if_pos (by omega)]; rfl
theorem ixN_1 {n : Nat} : ixN (n + 1 + 1) 1 = some 1 := by unfold ixN; rw [if_pos (by decide), if_pos (by omega)]; rfl
theorem ixN_2 {n : Nat} : ixN (n + 1 + 1 + 1) 2 = some 2 := by unfold ixN; rw [if_pos (by decide), if_pos (by omega)]; rfl
section
variable {CX : CXT} {P : Program} {w : World} {K : PySem.W.Frag} {mg : Str → Option Value} {base : Heap} {N : List Str} {qual : Str} {scope : Scope} {f : Addr} {cd : Value} {A : Around} {outer : List Env} {s : Shared} {H : Hp} {E : XK}
theorem w_cxK : (cxOf CX P w K mg base N qual scope f cd A outer s H E).K = K := rfl
end
theorem le_size {n : Nat} (h : n ≤ 1000) : n ≤ sizeLine := Nat.le_of_lt (small1000 h)
theorem sl_1 : (0 + 1 ≤ sizeLine) = True := eq_true (le_size (by decide))
theorem sl_2 : (0 + 1 + 1 ≤ sizeLine) = True := eq_true (le_size (by decide))
theorem sl_3 : (0 + 1 + 1 + 1 ≤ sizeLine) = True := eq_true (le_size (by decide))
theorem sl_4 : (0 + 1 + 1 + 1 + 1 ≤ sizeLine) = True := eq_true (le_size (by decide))
theorem sl_5 : (0 + 1 + 1 + 1 + 1 + 1 ≤ sizeLine) = True := eq_true (le_size (by decide))
theorem sl_6 : (0 + 1 + 1 + 1 + 1 + 1 + 1 ≤ sizeLine) = True := eq_true (le_size (by decide))
theorem sl_7 : (0 + 1 + 1 + 1 + 1 + 1 + 1 + 1 ≤ sizeLine) = True := eq_true (le_size (by decide))
theorem sl_8 : (0 + 1 + 1 + 1 + 1 + 1 + 1 + 1 + 1 ≤ sizeLine) = True := eq_true (le_size (by decide))
theorem sl_0 : (0 ≤ sizeLine) = True := eq_true (le_size (by decide))
theorem divq {g m : Int} (hg : 0 ≤ g) (hm : 0 < m) : 0 ≤ g / m := Int.ediv_nonneg hg (Int.le_of_lt hm)
theorem modq {g m : Int} (hm : 0 < m) : 0 ≤ g % m ∧ g % m < m := ⟨Int.emod_nonneg _ (by omega), Int.emod_lt_of_pos _ hm⟩
def ForR (lo : Int) (n : Nat) (g : TG) (tb : TS) (D : Ends) (σ : St) (H : Hp) : Prop := ∃ W : Nat → Nat → St → Hp → Prop, (∃ m, W 0 m σ H) ∧ ∀ i m σ H, W i m σ H →
  ((Itr lo n).stop i H ∧ D.nx σ H) ∨ ((Itr lo n).go i H ∧ ∃ N : St → Hp → Prop, (∀ σ' H', N σ' H' → ∃ m', m' < m ∧ W (i + 1) m' σ' H') ∧ ∀ x H', (Itr lo n).yld i H x H' → g x σ H' fun σ2 H2 => tb { D with nx := N, ct := N, bk := D.nx } σ2 H2)
def ForL (K : PySem.W.Frag) (a : Addr) (g : TG) (tb : TS) (D : Ends) (σ : St) (H : Hp) : Prop := ∃ W : Nat → Nat → St → Hp → Prop, (∃ m, W 0 m σ H) ∧ ∀ i m σ H, W i m σ H →
  ((Itl K a).stop i H ∧ D.nx σ H) ∨ ((Itl K a).go i H ∧ ∃ N : St → Hp → Prop, (∀ σ' H', N σ' H' → ∃ m', m' < m ∧ W (i + 1) m' σ' H') ∧ ∀ x H', (Itl K a).yld i H x H' → g x σ H' fun σ2 H2 => tb { D with nx := N, ct := N, bk := D.nx } σ2 H2)
def ForT (K : PySem.W.Frag) (a : Addr) (g : TG) (tb : TS) (D : Ends) (σ : St) (H : Hp) : Prop := ∃ W : Nat → Nat → St → Hp → Prop, (∃ m, W 0 m σ H) ∧ ∀ i m σ H, W i m σ H →
  ((Itt K a).stop i H ∧ D.nx σ H) ∨ ((Itt K a).go i H ∧ ∃ N : St → Hp → Prop, (∀ σ' H', N σ' H' → ∃ m', m' < m ∧ W (i + 1) m' σ' H') ∧ ∀ x H', (Itt K a).yld i H x H' → g x σ H' fun σ2 H2 => tb { D with nx := N, ct := N, bk := D.nx } σ2 H2)
section
variable {σ : St} {H : Hp} {D : Ends} {g : TG} {tb : TS} {K : PySem.W.Frag} {a : Addr}
theorem w_for1 {ta : TA} : tFor (iRng1 ta) g tb D σ H = (ta σ H fun vs H1 => ∃ j : Int, vs = [.int j] ∧ -(2 ^ 62) ≤ j ∧ j < 2 ^ 62 ∧ ForR 0 j.toNat g tb D σ H1) := rfl
theorem w_forL {tl : TE} : tFor (iList K tl) g tb D σ H = (tl σ H fun x H1 => ∃ a, x = .ref a ∧ (∃ xs, SqL K H1 a xs) ∧ ForL K a g tb D σ H1) := rfl
theorem w_forT {tl : TE} : tFor (iTup K tl) g tb D σ H = (tl σ H fun x H1 => ∃ a, x = .ref a ∧ (∃ xs, SqT K H1 a xs) ∧ ForT K a g tb D σ H1) := rfl
theorem forR {lo : Int} {n : Nat} (Pv : Nat → St → Hp → Prop) (h0 : Pv 0 σ H)
    (hs : ∀ i σ H (N : St → Hp → Prop), i < n → Pv i σ H → (∀ σ' H', Pv (i + 1) σ' H' → N σ' H') → g (.int (lo + i)) σ H fun σ2 H2 => tb { D with nx := N, ct := N, bk := D.nx } σ2 H2) (hd : ∀ σ H, Pv n σ H → D.nx σ H) : ForR lo n g tb D σ H :=
  for_range Pv h0 (fun i σ H h p => hs i σ H _ h p fun _ _ q => q) hd
theorem forL {xs : List V} (Pv : Nat → St → Hp → Prop) (h0 : Pv 0 σ H) (hl : ∀ i σ H, i ≤ xs.length → Pv i σ H → SqL K H a xs)
    (hs : ∀ i x σ H (N : St → Hp → Prop), xs[i]? = some x → Pv i σ H → (∀ σ' H', Pv (i + 1) σ' H' → N σ' H') → g x σ H fun σ2 H2 => tb { D with nx := N, ct := N, bk := D.nx } σ2 H2) (hd : ∀ σ H, Pv xs.length σ H → D.nx σ H) : ForL K a g tb D σ H := for_list Pv h0 hl (fun i x σ H h p => hs i x σ H _ h p fun _ _ q => q) hd
end
theorem r2 {r : Int} (h0 : 0 ≤ r) (h1 : r < 2) : r = 0 ∨ r = 1 := by omega
theorem r3 {r : Int} (h0 : 0 ≤ r) (h1 : r < 3) : r = 0 ∨ r = 1 ∨ r = 2 := by omega
theorem r4 {r : Int} (h0 : 0 ≤ r) (h1 : r < 4) : r = 0 ∨ r = 1 ∨ r = 2 ∨ r = 3 := by omega
theorem abs_mul {a b : Int} {m n k : Nat} (h1 : a.natAbs < 2 ^ m) (h2 : b.natAbs < 2 ^ n) (h : m + n = k) : (a * b).natAbs < 2 ^ k := by
  subst h
  rw [Int.natAbs_mul, Nat.pow_add]
  have hp : 0 < 2 ^ n := Nat.two_pow_pos n
  have a1 : a.natAbs * b.natAbs ≤ a.natAbs * 2 ^ n := Nat.mul_le_mul_left _ (by omega)
  have a2 : a.natAbs * 2 ^ n < 2 ^ m * 2 ^ n := Nat.mul_lt_mul_of_pos_right h1 hp
  omega
theorem shl_ok {n s : Int} {k : Nat} (h0 : 0 ≤ s) (h1 : s ≤ 1000000) (h : n.natAbs < 2 ^ k) (hk : k ≤ 1000000) : CShl n s := ⟨h0, h1, Nat.le_trans (bits_le h) hk⟩
theorem mid_of {t u : TS} {D : Ends} {σ : St} {H : Hp} (M : St → Hp → Prop) (h1 : ∀ N : St → Hp → Prop, (∀ σ H, M σ H → N σ H) → t { D with nx := N } σ H) (h2 : ∀ σ H, M σ H → u D σ H) : tMid t u D σ H := ⟨M, h1 M fun _ _ q => q, h2⟩
section
variable {K : PySem.W.Frag} {H : Hp} {Q : VK}
theorem isI_mk {x : V} {T : String} {t : Value} {b : Bool} (ty : TyOf K H x t) (u : ∀ t', TyOf K H x t' → t' = t) (k : PySem.W.kitOne K t (.type T) = some b) : rIsI K [x, .ty T] H Q = Q (.bl b) H :=
  propext ⟨fun ⟨x', T', t', b', e, ty', k', q⟩ => by
    cases e
    rw [u _ ty', k] at k'
    cases k'
    exact q, fun q => ⟨x, T, t, b, rfl, ty, k, q⟩⟩
theorem kit_non_bool : PySem.W.kitOne K (.type "NoneType") (.type "bool") = some false := by first | rfl | decide +kernel
theorem kit_str_bool : PySem.W.kitOne K (.type "str") (.type "bool") = some false := by first | rfl | decide +kernel
theorem w_isI_ii {i : Int} : rIsI K [.int i, .ty "int"] H Q = Q (.bl true) H := isI_mk (.int i) (fun _ h => by cases h; rfl) (kit_same _)
theorem w_isI_ib {i : Int} : rIsI K [.int i, .ty "bool"] H Q = Q (.bl false) H := isI_mk (.int i) (fun _ h => by cases h; rfl) kit_int_bool
theorem w_isI_bi {i : Bool} : rIsI K [.bl i, .ty "int"] H Q = Q (.bl true) H := isI_mk (.bl i) (fun _ h => by cases h; rfl) kit_bool_int
theorem w_isI_bb {i : Bool} : rIsI K [.bl i, .ty "bool"] H Q = Q (.bl true) H := isI_mk (.bl i) (fun _ h => by cases h; rfl) (kit_same _)
theorem w_isI_ni : rIsI K [.non, .ty "int"] H Q = Q (.bl false) H := isI_mk .non (fun _ h => by cases h; rfl) kit_non_int
theorem w_isI_nb : rIsI K [.non, .ty "bool"] H Q = Q (.bl false) H := isI_mk .non (fun _ h => by cases h; rfl) kit_non_bool
theorem w_isI_si {x : Str} : rIsI K [.str x, .ty "int"] H Q = Q (.bl false) H := isI_mk (.str x) (fun _ h => by cases h; rfl) kit_str_int
theorem w_isI_sb {x : Str} : rIsI K [.str x, .ty "bool"] H Q = Q (.bl false) H := isI_mk (.str x) (fun _ h => by cases h; rfl) kit_str_bool
end
theorem pow_pos2 (k : Nat) : (0 : Int) < 2 ^ k := Int.pow_pos (by decide)
end L2
set_option Elab.async false
set_option linter.all false
set_option maxRecDepth 100000
set_option maxHeartbeats 1000000
namespace L2
open PySem PySem.Spec PyProof.Rows
def closOf (scope : Scope) (env : Env) : List (Str × Addr) := (scope.names.filterMap fun x => if x.2 == .free then (env.cells.lookup x.1).map fun c => (x.1, c) else none).reverse
theorem closureFor_ok {scope : Scope} {env : Env} (h : ∀ x ∈ scope.names, x.2 = .free → ∃ c, env.cells.lookup x.1 = some c) : closureFor scope env = pure (closOf scope env) := by
  unfold closureFor closOf
  have all : ∀ (l : List (Str × NameKind)) (acc : List (Str × Addr)), (∀ x ∈ l, x.2 = .free → ∃ c, env.cells.lookup x.1 = some c) →
      (forIn l acc fun x r => (match x with | (name, kind) => if (kind == .free) = true then do let a ← cellOf env name; pure (ForInStep.yield ((name, a) :: r)) else pure (ForInStep.yield r) : Sem (ForInStep (List (Str × Addr))))) =
        pure ((l.filterMap fun x => if x.2 == .free then (env.cells.lookup x.1).map fun c => (x.1, c) else none).reverse ++ acc) := by
    intro l
    induction l with
    | nil => intro acc _; simp
    | cons x r ih =>
      intro acc hx
      obtain ⟨n, k⟩ := x
      have hr : ∀ y ∈ r, y.2 = .free → ∃ c, env.cells.lookup y.1 = some c := fun y hy => hx y (List.mem_cons_of_mem _ hy)
      by_cases hk : k = .free
      · subst hk
        obtain ⟨c, hc⟩ := hx (n, .free) List.mem_cons_self rfl
        have e1 : cellOf env n = pure c := by unfold cellOf; rw [show env.cells.lookup n = some c from hc]
        simp only [List.forIn_cons, beq_self_eq_true, if_true, e1, pure_bind, List.filterMap_cons]
        rw [ih _ hr]
        simp [show env.cells.lookup n = some c from hc]
      · have hb : (k == NameKind.free) = false := by simpa using hk
        simp only [List.forIn_cons, hb, Bool.false_eq_true, if_false, pure_bind, List.filterMap_cons]
        rw [ih _ hr]
  have := all scope.names [] h
  rw [List.append_nil] at this
  simp only [bind_pure]
  first | exact this | (rw [this]) | (simpa using this)
theorem mem_clos {scope : Scope} {env : Env} {x : Str} {c : Addr} (h : (closOf scope env).lookup x = some c) : env.cells.lookup x = some c := by
  have m := PySem.mem_of_lookup h
  unfold closOf at m
  rw [List.mem_reverse, List.mem_filterMap] at m
  obtain ⟨y, hy, e⟩ := m
  split at e
  · cases q : env.cells.lookup y.1 with
    | none => rw [q] at e; cases e
    | some d =>
      rw [q] at e
      simp only [Option.map_some, Option.some.injEq, Prod.mk.injEq] at e
      rw [← e.1, q, e.2]
  · cases e
theorem lookup_mem {α : Type} : ∀ {l : List (Str × α)} {x : Str} {c : α}, (x, c) ∈ l → ∃ d, l.lookup x = some d
  | (k, v) :: r, x, c, h => by
    rw [List.lookup_cons]
    cases hb : x == k with
    | true => exact ⟨v, rfl⟩
    | false =>
      rcases List.mem_cons.mp h with e | e
      · injection e with e1 e2
        subst e1
        simp at hb
      · exact lookup_mem e
theorem clos_has {scope : Scope} {env : Env} {x : Str} {c : Addr} (h : (x, NameKind.free) ∈ scope.names) (hc : env.cells.lookup x = some c) : (closOf scope env).lookup x = some c := by
  have m : (x, c) ∈ closOf scope env := by
    unfold closOf
    rw [List.mem_reverse, List.mem_filterMap]
    exact ⟨(x, .free), h, by simp [hc]⟩
  obtain ⟨d, hd⟩ := lookup_mem m
  have := mem_clos hd
  rw [hc] at this
  rw [hd, ← this]
theorem relabel_lookup {env : Env} : ∀ {names : List (Str × NameKind)} {x : Str} {k : NameKind},
    (names.map fun (n, k) => if (k == NameKind.free && env.scope.kind == .function && env.kindOf n == some .cell) then (n, NameKind.cell) else (n, k)).lookup x = some k →
    ∃ k0, names.lookup x = some k0 ∧ (k0 = k ∨ (k0 = .free ∧ k = .cell))
  | [], _, _, h => by simp at h
  | (n, k) :: r, x, k', h => by
    simp only [List.map_cons] at h
    by_cases hc : (k == NameKind.free && env.scope.kind == .function && env.kindOf n == some .cell) = true
    · rw [if_pos hc, List.lookup_cons] at h
      rw [List.lookup_cons]
      cases hb : x == n with
      | true =>
        rw [hb] at h
        simp only [Option.some.injEq] at h
        refine ⟨k, rfl, .inr ⟨?_, h.symm⟩⟩
        simp only [Bool.and_eq_true, beq_iff_eq] at hc
        exact hc.1.1
      | false =>
        rw [hb] at h
        exact relabel_lookup h
    · rw [if_neg hc, List.lookup_cons] at h
      rw [List.lookup_cons]
      cases hb : x == n with
      | true =>
        rw [hb] at h
        simp only [Option.some.injEq] at h
        exact ⟨k, rfl, .inl h⟩
      | false =>
        rw [hb] at h
        exact relabel_lookup h
theorem codeAny_compLoop_gen {prog : Program} {w : World} {A : Around} {R : Result → Shared → Prop} {s : Shared} {elt target iter : Expr} {ifs : List Expr} {scope : Scope} {pos : Pos} {it acc : Value} {env : Env} (I : Nat → Shared → Prop)
    (turn : ∀ n s, I n s → wpAny (model prog w) A (pyNext it) (fun r s₁ => match r with
      | none => R (.ok .next) s₁
      | some v => wpAny (model prog w) A (letOwnedTupleGo target it v) (fun _ s₁' => wpAny (model prog w) A (assign target env v) (fun _ s₂ =>
          wpAny (model prog w) A (forIn ifs true fun c r => if r = true then do let ok ← isTrue c env (eval c env); pure (ForInStep.yield ok) else pure (ForInStep.yield r)) (fun ok s₃ =>
            if ok = true then wpAny (model prog w) A (eval elt env) (fun x s₄ =>
              wpAny (model prog w) A (call (.builtin "list.append") [acc, x]) (fun _ s₅ => ∃ m, m < n ∧ I m s₅) (fun _ _ => False) s₄) (fun _ _ => False) s₃
            else ∃ m, m < n ∧ I m s₃) (fun _ _ => False) s₂) (fun _ _ => False) s₁') (fun _ _ => False) s₁) (fun _ _ => False) s)
    (n : Nat) (h : I n s) :
    codeAny (model prog w) A (.compLoop (.ListComp elt [⟨target, iter, ifs, 0⟩] scope pos) 0 it acc env) R s := by
  refine codeAny_loop rfl I (fun n s hI => ?_) n h
  show wpAny _ A ((compTurn (.ListComp elt [⟨target, iter, ifs, 0⟩] scope pos) 0 it acc env).onRaise (fun x => do noteFrame x env; theTreesLotGoes x)) _ _ s
  refine wpAny_noted ?_
  rw [compTurn_list]
  refine wpAny_bind (wpAny_standAt (wpAny_bind (wpAny_mono (turn n s hI) (fun r s₁ h₁ => ?_) fun _ _ h' => h'.elim)))
  cases r with
  | none => exact wpAny_pure h₁
  | some v =>
    refine wpAny_bind (wpAny_mono h₁ (fun _ s₁' h₁' => ?_) fun _ _ h' => h'.elim)
    refine wpAny_bind (wpAny_mono h₁' (fun _ s₂ h₂ => wpAny_bind (wpAny_mono h₂ (fun ok s₃ h₃ => ?_) fun _ _ h' => h'.elim)) fun _ _ h' => h'.elim)
    cases ok with
    | false => exact wpAny_pure ⟨rfl, h₃⟩
    | true =>
      exact wpAny_bind (wpAny_bind (wpAny_mono h₃ (fun x s₄ h₄ => wpAny_bind (wpAny_mono h₄ (fun _ s₅ h₅ => wpAny_pure (wpAny_pure ⟨rfl, h₅⟩)) fun _ _ h' => h'.elim)) fun _ _ h' => h'.elim))
def PN (X : Cx) (ifs : List Expr) (t : TT) : Prop :=
  ∀ (pins : List (Addr × Obj)) (s : Shared) (σ : St) (H : Hp) (Q : Bool → Hp → Prop), Inv X pins σ H s → t σ H Q →
    wpAny (model X.prog X.w) X.A (forIn ifs true fun c r => if r = true then do let ok ← isTrue c X.env (eval c X.env); pure (ForInStep.yield ok) else pure (ForInStep.yield r)) (TP X pins σ Q) X.xe s
def tYes : TT := fun _ H Q => Q true H
section
variable {X : Cx}
theorem pn_nil : PN X [] tYes := fun _ _ σ H Q I h => wpAny_pure ⟨H, I, h⟩
theorem pn_one {c : Expr} {t : TT} (h : PT X c t) : PN X [c] t := by
  intro pins s σ H Q I q
  refine PySem.wpAny_tests_one (h pins s σ H Q I q)
end
structure CompBody (X : Cx) (tg : Expr) (ifs : List Expr) (elt : Expr) (g : TG) (tt : TT) (te : TE) : Prop where
  tg : PG X tg g
  tt : PN X ifs tt
  te : PE X elt te
def capB (cs : List Nat) (ns XN : List Str) (sc xsc : Scope) : Bool := (cs.zip ns).all fun p => (XN[p.1]? == some p.2) && (sc.names.lookup p.2 == some .free) && (xsc.names.lookup p.2 != some .local)
def capSt (nt : Nat) (cs : List Nat) (σ : St) : St := List.replicate nt none ++ cs.map fun c => (σ[c]?).join
def tComp (wi : TI) (nt : Nat) (cs : List Nat) (g : TG) (tt : TT) (te : TE) : TE := fun σ H Q => wi σ H fun J H1 => ∀ acc, H1 acc = none →
  ∃ W : Nat → Nat → List V → St → Hp → Prop, (∃ m, W 0 m [] (capSt nt cs σ) (upd H1 acc (.lst []))) ∧ ∀ i m ys σ' H', W i m ys σ' H' → H' acc = some (.lst ys) ∧
    ((J.stop i H' ∧ Q (.ref acc) H') ∨ (J.go i H' ∧ ys.length < sizeLine ∧ ∃ N : List V → St → Hp → Prop, (∀ zs σ2 H2, N zs σ2 H2 → ∃ m', m' < m ∧ W (i + 1) m' zs σ2 H2) ∧
      ∀ x H2, J.yld i H' x H2 → g x σ' H2 fun σ3 H3 => tt σ3 H3 fun b H4 => if b = true then te σ3 H4 fun y H5 => H5 acc = some (.lst ys) ∧ N (ys ++ [y]) σ3 (upd H5 acc (.lst (ys ++ [y]))) else N ys σ3 H4))
section
variable {X : Cx}
theorem un_same {fs ex : List Addr} {H H' : Hp} {h h1 h' : Heap} {C : Addr} (u : Un fs ex H H' h h1) (hs : Heap.SameBut C h1 h') (hC : h.objs.size ≤ C) : Un fs ex H H' h h' where
  keep := fun b o e n hb hx => (hs.2 b (Nat.ne_of_lt (Nat.lt_of_lt_of_le (Heap.lt_size e) hC))).trans (u.keep b o e n hb hx)
  slot := fun b o e n hb hx => by
    obtain ⟨sl, q⟩ := u.slot b o e n hb hx
    exact ⟨sl, (hs.2 b (Nat.ne_of_lt (Nat.lt_of_lt_of_le (Heap.lt_size e) hC))).trans q⟩
  free := u.free
  there := fun b o e hx => by
    obtain ⟨o', q⟩ := u.there b o e hx
    exact ⟨o', (hs.2 b (Nat.ne_of_lt (Nat.lt_of_lt_of_le (Heap.lt_size e) hC))).trans q⟩
  tups := u.tups
  frzs := u.frzs
  tbls := u.tbls
theorem hok_same {P : Program} {w : World} {H : Hp} {h h' : Heap} {C : Addr} (x : HOk P w H h) (hs : Heap.SameBut C h h') (hC : H C = none) : HOk P w H h' := fun b u e =>
  (x b u e).stay (fun c v hc q => (hs.2 c (fun z => by
    subst z
    rcases hc with z | z
    · subst z; rw [hC] at e; cases e
    · rw [hC] at z; cases z)).trans q) (fun _ q => q) fun _ _ q => q
end
end L2
set_option Elab.async false
set_option linter.all false
set_option maxRecDepth 100000
set_option maxHeartbeats 1000000
namespace L2
open PySem PySem.Spec PyProof.Rows
inductive Dt where
  | f (x : V)
  | l (xs : List Dt)
  | t (xs : List Dt)
mutual
def Is (K : PySem.W.Frag) (H : Hp) (x : V) : Dt → Prop
  | .f y => x = y ∧ flatV y = true
  | .l ds => ∃ p xs, x = .ref p ∧ SqL K H p xs ∧ IsL K H xs ds
  | .t ds => ∃ p xs, x = .ref p ∧ SqT K H p xs ∧ IsL K H xs ds
def IsL (K : PySem.W.Frag) (H : Hp) (xs : List V) : List Dt → Prop
  | [] => xs = []
  | d :: ds => ∃ x r, xs = x :: r ∧ Is K H x d ∧ IsL K H r ds
end
mutual
def deq : Dt → Dt → Bool
  | .f x, .f y => eqV x y
  | .l xs, .l ys => deqL xs ys
  | .t xs, .t ys => deqL xs ys
  | _, _ => false
def deqL : List Dt → List Dt → Bool
  | [], [] => true
  | x :: xs, y :: ys => deq x y && deqL xs ys
  | _, _ => false
end
mutual
def dep : Dt → Nat
  | .f _ => 0
  | .l xs => depL xs + 1
  | .t xs => depL xs + 1
def depL : List Dt → Nat
  | [] => 0
  | d :: ds => max (dep d) (depL ds)
end
theorem IsL.len {K : PySem.W.Frag} {H : Hp} : ∀ {ds : List Dt} {xs : List V}, IsL K H xs ds → xs.length = ds.length
  | [], xs, h => by rw [IsL] at h; subst h; rfl
  | d :: ds, xs, h => by
    rw [IsL] at h
    obtain ⟨x, r, rfl, _, h⟩ := h
    rw [List.length_cons, List.length_cons, IsL.len h]
theorem IsL.get {K : PySem.W.Frag} {H : Hp} : ∀ {ds : List Dt} {xs : List V} {j : Nat} {x : V}, IsL K H xs ds → xs[j]? = some x → ∃ d, ds[j]? = some d ∧ Is K H x d
  | [], xs, j, x, h, e => by rw [IsL] at h; subst h; simp at e
  | d :: ds, xs, j, x, h, e => by
    rw [IsL] at h
    obtain ⟨y, r, rfl, hy, h⟩ := h
    cases j with
    | zero => simp at e; subst e; exact ⟨d, rfl, hy⟩
    | succ j => exact IsL.get (j := j) h (by simpa using e)
theorem depL_mem {ds : List Dt} : ∀ {d : Dt} {j : Nat}, ds[j]? = some d → dep d ≤ depL ds := by
  induction ds with
  | nil => intro d j e; simp at e
  | cons a r ih =>
    intro d j e
    rw [depL]
    cases j with
    | zero => simp at e; subst e; omega
    | succ j => have := ih (d := d) (j := j) (by simpa using e); omega
mutual
theorem deq_refl : ∀ (d : Dt) {K : PySem.W.Frag} {H : Hp} {x : V}, Is K H x d → deq d d = true
  | .f y, K, H, x, h => by
    rw [Is] at h
    rw [deq]
    have hy := h.2
    cases y <;> first | (simp [eqV]; done) | (exact absurd hy (by decide)) | (cases hy)
  | .l ds, K, H, x, h => by
    rw [Is] at h
    obtain ⟨p, xs, _, _, h⟩ := h
    rw [deq]
    exact deqL_refl ds h
  | .t ds, K, H, x, h => by
    rw [Is] at h
    obtain ⟨p, xs, _, _, h⟩ := h
    rw [deq]
    exact deqL_refl ds h
theorem deqL_refl : ∀ (ds : List Dt) {K : PySem.W.Frag} {H : Hp} {xs : List V}, IsL K H xs ds → deqL ds ds = true
  | [], _, _, _, _ => by rw [deqL]
  | d :: ds, K, H, xs, h => by
    rw [IsL] at h
    obtain ⟨y, r, _, hy, h⟩ := h
    rw [deqL, deq_refl d hy, deqL_refl ds h]
    rfl
end
theorem deqL_get : ∀ {ds es : List Dt}, deqL ds es = (decide (ds.length = es.length) && (List.range ds.length).all fun j => match ds[j]?, es[j]? with | some d, some e => deq d e | _, _ => false)
  | [], [] => by simp [deqL]
  | [], e :: es => by simp [deqL]
  | d :: ds, [] => by simp [deqL]
  | d :: ds, e :: es => by
    rw [deqL, deqL_get]
    have r : List.range (d :: ds).length = 0 :: (List.range ds.length).map (· + 1) := by rw [List.length_cons, List.range_succ_eq_map]
    rw [r, List.all_cons, List.all_map]
    simp only [List.getElem?_cons_zero, List.length_cons, Nat.add_right_cancel_iff]
    have c : ((fun j => match (d :: ds)[j]?, (e :: es)[j]? with | some d, some e => deq d e | _, _ => false) ∘ fun x => x + 1) = (fun j => match ds[j]?, es[j]? with | some d, some e => deq d e | _, _ => false) := by
      funext j
      simp
    rw [c]
    cases deq d e <;> cases decide (ds.length = es.length) <;> rfl
section
variable {X : Cx} {pins : List (Addr × Obj)} {σ : St} {H : Hp} {s : Shared}
mutual
theorem Is.inj : ∀ (d : Dt) {e : Dt} {x : V}, Inv X pins σ H s → Is X.K H x d → Is X.K H x e → (∀ p xs ys, SqL X.K H p xs → ¬ SqT X.K H p ys) → d = e
  | .f y, e, x, I, h, h', hk => by
    rw [Is] at h
    obtain ⟨rfl, hy⟩ := h
    cases e with
    | f z => rw [Is] at h'; rw [h'.1]
    | l ds => rw [Is] at h'; obtain ⟨p, xs, e, _⟩ := h'; subst e; cases hy
    | t ds => rw [Is] at h'; obtain ⟨p, xs, e, _⟩ := h'; subst e; cases hy
  | .l ds, e, x, I, h, h', hk => by
    rw [Is] at h
    obtain ⟨p, xs, rfl, hs, h⟩ := h
    cases e with
    | f z => rw [Is] at h'; obtain ⟨e, hz⟩ := h'; subst e; cases hz
    | l es =>
      rw [Is] at h'
      obtain ⟨q, ys, e, hs', h'⟩ := h'
      cases e
      rw [I.list_inj hs' hs] at h'
      rw [IsL.inj ds I h h' hk]
    | t es =>
      rw [Is] at h'
      obtain ⟨q, ys, e, hs', h'⟩ := h'
      cases e
      exact absurd hs' (hk _ _ _ hs)
  | .t ds, e, x, I, h, h', hk => by
    rw [Is] at h
    obtain ⟨p, xs, rfl, hs, h⟩ := h
    cases e with
    | f z => rw [Is] at h'; obtain ⟨e, hz⟩ := h'; subst e; cases hz
    | l es =>
      rw [Is] at h'
      obtain ⟨q, ys, e, hs', h'⟩ := h'
      cases e
      exact absurd hs (hk _ _ _ hs')
    | t es =>
      rw [Is] at h'
      obtain ⟨q, ys, e, hs', h'⟩ := h'
      cases e
      rw [I.tuple_inj hs' hs] at h'
      rw [IsL.inj ds I h h' hk]
theorem IsL.inj : ∀ (ds : List Dt) {es : List Dt} {xs : List V}, Inv X pins σ H s → IsL X.K H xs ds → IsL X.K H xs es → (∀ p xs ys, SqL X.K H p xs → ¬ SqT X.K H p ys) → ds = es
  | [], es, xs, I, h, h', hk => by
    rw [IsL] at h
    subst h
    cases es with
    | nil => rfl
    | cons e es => rw [IsL] at h'; obtain ⟨_, _, e, _⟩ := h'; cases e
  | d :: ds, es, xs, I, h, h', hk => by
    rw [IsL] at h
    obtain ⟨y, r, rfl, hy, h⟩ := h
    cases es with
    | nil => rw [IsL] at h'; cases h'
    | cons e es =>
      rw [IsL] at h'
      obtain ⟨y', r', e1, hy', h'⟩ := h'
      cases e1
      rw [Is.inj d I hy hy' hk, IsL.inj ds I h h' hk]
end
theorem Inv.apart (I : Inv X pins σ H s) : ∀ p xs ys, SqL X.K H p xs → ¬ SqT X.K H p ys := fun p xs ys h h' => by
  obtain ⟨its, _, ⟨o, n, e, c, _⟩, _⟩ := I.list h
  obtain ⟨its', _, ⟨o', e', c', _⟩, _⟩ := I.tuple h'
  rw [e] at e'
  cases e'
  rw [c] at c'
  exact absurd c' (by decide)
theorem eqAt_F {x : V} (e : Dt) {A : Around} {y : V} {u v : Value} (hu : A.units < cLine) (I : Inv X pins σ H s) (fx : flatV x = true) (hy : Is X.K H y e) (rx : RelV x u) (ry : RelV y v) : SeqAt.EqAt A s u v (deq (.f x) e) := by
  cases e with
  | f y' =>
    rw [Is] at hy
    obtain ⟨rfl, fy⟩ := hy
    rw [deq]
    exact eqAt_V rx ry fx fy
  | l ds =>
    rw [Is] at hy
    obtain ⟨p, ys, rfl, hs, _⟩ := hy
    cases ry
    obtain ⟨its, _, pl, _⟩ := I.list hs
    have hl := pl.isList
    rw [show deq (.f x) (.l ds) = false by rw [deq]; all_goals (intros; simp_all)]
    cases x with
    | non => cases rx; exact SeqAt.EqAt.none_list hl hu
    | bl b => cases rx; exact SeqAt.EqAt.bool_list b hl hu
    | int i => obtain ⟨t, rfl⟩ := rx; exact SeqAt.EqAt.int_list i t hl hu
    | str z => obtain ⟨t, rfl⟩ := rx; exact SeqAt.EqAt.str_list z t hl hu
    | _ => cases fx
  | t ds =>
    rw [Is] at hy
    obtain ⟨p, ys, rfl, hs, _⟩ := hy
    cases ry
    obtain ⟨its, _, pl, _⟩ := I.tuple hs
    have hl : s.heap.IsTuple p its.toArray := pl
    rw [show deq (.f x) (.t ds) = false by rw [deq]; all_goals (intros; simp_all)]
    cases x with
    | non => cases rx; exact SeqAt.EqAt.none_tuple hl hu
    | bl b => cases rx; exact SeqAt.EqAt.bool_tuple b hl hu
    | int i => obtain ⟨t, rfl⟩ := rx; exact SeqAt.EqAt.int_tuple i t hl hu
    | str z => obtain ⟨t, rfl⟩ := rx; exact SeqAt.EqAt.str_tuple z t hl hu
    | _ => cases fx
def deqAt (ds es : List Dt) (j : Nat) : Bool := match ds[j]?, es[j]? with | some d, some e => deq d e | _, _ => false
theorem elems {n : Nat} {A : Around} (ih : ∀ (d e : Dt) {A : Around} {x y : V} {u v : Value}, dep d ≤ n → A.units + n < cLine → Inv X pins σ H s → Is X.K H x d → Is X.K H y e → RelV x u → RelV y v → SeqAt.EqAt A s u v (deq d e)) (hu : A.units + (n + 1) < cLine) (I : Inv X pins σ H s)
    {ds es : List Dt} {xs ys : List V} {its its' : List Value} (hd : depL ds ≤ n) (hx : IsL X.K H xs ds) (hy : IsL X.K H ys es) (rx : Vals xs its) (ry : Vals ys its') :
    ∀ j (h1 : j < its.toArray.size) (h2 : j < its'.toArray.size), SeqAt.EqAt A.in1 s its.toArray[j] its'.toArray[j] (deqAt ds es j) := by
  intro j h1 h2
  have l1 := rx.length
  have l2 := ry.length
  have k1 : j < xs.length := by simpa [l1] using h1
  have k2 : j < ys.length := by simpa [l2] using h2
  obtain ⟨d, e1, q1⟩ := hx.get (List.getElem?_eq_getElem k1)
  obtain ⟨e, e2, q2⟩ := hy.get (List.getElem?_eq_getElem k2)
  obtain ⟨u, hu', ru⟩ := rx.get (List.getElem?_eq_getElem k1)
  obtain ⟨v, hv', rv⟩ := ry.get (List.getElem?_eq_getElem k2)
  have f1 : its.toArray[j] = u := by
    have : its[j]? = some its.toArray[j] := by simp
    rw [hu'] at this
    exact (Option.some.inj this).symm
  have f2 : its'.toArray[j] = v := by
    have : its'[j]? = some its'.toArray[j] := by simp
    rw [hv'] at this
    exact (Option.some.inj this).symm
  rw [f1, f2]
  unfold deqAt
  rw [e1, e2]
  exact ih d e (Nat.le_trans (depL_mem e1) hd) (by rw [Around.in1_units]; omega) I q1 q2 ru rv
theorem all_deqAt {ds es : List Dt} (h : ds.length = es.length) : (List.range ds.length).all (deqAt ds es) = deqL ds es := by
  rw [deqL_get, decide_eq_true h, Bool.true_and]
  rfl
theorem deqL_ne {ds es : List Dt} (h : ds.length ≠ es.length) : deqL ds es = false := by
  rw [deqL_get, decide_eq_false h, Bool.false_and]
theorem rcAt_D : ∀ (n : Nat) (d e : Dt) {A : Around} {x y : V} {u v : Value}, dep d ≤ n → A.units + n < cLine → Inv X pins σ H s → Is X.K H x d → Is X.K H y e → RelV x u → RelV y v → SeqAt.EqAt A s u v (deq d e) ∧ (∀ p, x = .ref p → SeqAt.RcAt A s u v (deq d e))
  | n, .f x', e, A, x, y, u, v, hn, hu, I, hx, hy, rx, ry => by
    rw [Is] at hx
    obtain ⟨rfl, fx⟩ := hx
    exact ⟨eqAt_F e (by omega) I fx hy rx ry, fun p e => by subst e; cases fx⟩
  | 0, .l ds, e, A, x, y, u, v, hn, hu, I, hx, hy, rx, ry => by rw [dep] at hn; omega
  | 0, .t ds, e, A, x, y, u, v, hn, hu, I, hx, hy, rx, ry => by rw [dep] at hn; omega
  | n + 1, .l ds, e, A, x, y, u, v, hn, hu, I, hx, hy, rx, ry => by
    rw [dep] at hn
    have hx0 := hx
    rw [Is] at hx
    obtain ⟨p, xs, rfl, hs, hxs⟩ := hx
    cases rx
    obtain ⟨its, rv, pl, _⟩ := I.list hs
    have hl := pl.isList
    have hu' : A.units < cLine := by omega
    have ih := fun (d e : Dt) {A : Around} {x y : V} {u v : Value} (a : dep d ≤ n) (b : A.units + n < cLine) (c : Inv X pins σ H s) (f : Is X.K H x d) (g : Is X.K H y e) (h : RelV x u) (i : RelV y v) => (rcAt_D n d e a b c f g h i).1
    cases e with
    | f y' =>
      rw [Is] at hy
      obtain ⟨rfl, fy⟩ := hy
      rw [show deq (.l ds) (.f y) = false by rw [deq]; all_goals (intros; simp_all)]
      cases y with
      | non => cases ry; exact ⟨SeqAt.EqAt.list_none hl hu', fun _ _ => SeqAt.RcAt.list_none hl hu'⟩
      | bl b => cases ry; exact ⟨SeqAt.EqAt.list_bool b hl hu', fun _ _ => SeqAt.RcAt.list_bool b hl hu'⟩
      | int i => obtain ⟨t, rfl⟩ := ry; exact ⟨SeqAt.EqAt.list_int i t hl hu', fun _ _ => SeqAt.RcAt.list_int i t hl hu'⟩
      | str z => obtain ⟨t, rfl⟩ := ry; exact ⟨SeqAt.EqAt.list_str z t hl hu', fun _ _ => SeqAt.RcAt.list_str z t hl hu'⟩
      | _ => cases fy
    | l es =>
      have hy0 := hy
      rw [Is] at hy
      obtain ⟨q, ys, rfl, hs', hys⟩ := hy
      cases ry
      obtain ⟨its', rv', pl', _⟩ := I.list hs'
      have hl' := pl'.isList
      have e1 : its.toArray.size = ds.length := by rw [List.size_toArray, ← rv.length, hxs.len]
      have e2 : its'.toArray.size = es.length := by rw [List.size_toArray, ← rv'.length, hys.len]
      have rc : SeqAt.RcAt A s (.ref p) (.ref q) (deq (.l ds) (.l es)) := by
        rw [deq]
        by_cases hz : ds.length = es.length
        · have := SeqAt.RcAt.lists hl hl' (by omega) hu' (elems ih hu I (by omega) hxs hys rv rv')
          rw [e1, all_deqAt hz] at this
          exact this
        · rw [deqL_ne hz]
          exact SeqAt.RcAt.lists_lengths hl hl' (by rw [bne_iff_ne]; omega) hu'
      refine ⟨?_, fun _ _ => rc⟩
      by_cases hpq : p = q
      · subst hpq
        have := Is.inj _ I hx0 hy0 I.apart
        rw [← this, deq_refl _ hx0]
        exact SeqAt.EqAt.same _
      · exact SeqAt.EqAt.of_refs hpq rc
    | t es =>
      rw [Is] at hy
      obtain ⟨q, ys, rfl, hs', hys⟩ := hy
      cases ry
      obtain ⟨its', rv', pl', _⟩ := I.tuple hs'
      have hl' : s.heap.IsTuple q its'.toArray := pl'
      rw [show deq (.l ds) (.t es) = false by rw [deq]; all_goals (intros; simp_all)]
      exact ⟨SeqAt.EqAt.list_tuple hl hl' hu', fun _ _ => SeqAt.RcAt.list_tuple hl hl' hu'⟩
  | n + 1, .t ds, e, A, x, y, u, v, hn, hu, I, hx, hy, rx, ry => by
    rw [dep] at hn
    have hx0 := hx
    rw [Is] at hx
    obtain ⟨p, xs, rfl, hs, hxs⟩ := hx
    cases rx
    obtain ⟨its, rv, pl, _⟩ := I.tuple hs
    have hl : s.heap.IsTuple p its.toArray := pl
    have hu' : A.units < cLine := by omega
    have ih := fun (d e : Dt) {A : Around} {x y : V} {u v : Value} (a : dep d ≤ n) (b : A.units + n < cLine) (c : Inv X pins σ H s) (f : Is X.K H x d) (g : Is X.K H y e) (h : RelV x u) (i : RelV y v) => (rcAt_D n d e a b c f g h i).1
    cases e with
    | f y' =>
      rw [Is] at hy
      obtain ⟨rfl, fy⟩ := hy
      rw [show deq (.t ds) (.f y) = false by rw [deq]; all_goals (intros; simp_all)]
      cases y with
      | non => cases ry; exact ⟨SeqAt.EqAt.tuple_none hl hu', fun _ _ => SeqAt.RcAt.tuple_none hl hu'⟩
      | bl b => cases ry; exact ⟨SeqAt.EqAt.tuple_bool b hl hu', fun _ _ => SeqAt.RcAt.tuple_bool b hl hu'⟩
      | int i => obtain ⟨t, rfl⟩ := ry; exact ⟨SeqAt.EqAt.tuple_int i t hl hu', fun _ _ => SeqAt.RcAt.tuple_int i t hl hu'⟩
      | str z => obtain ⟨t, rfl⟩ := ry; exact ⟨SeqAt.EqAt.tuple_str z t hl hu', fun _ _ => SeqAt.RcAt.tuple_str z t hl hu'⟩
      | _ => cases fy
    | l es =>
      rw [Is] at hy
      obtain ⟨q, ys, rfl, hs', hys⟩ := hy
      cases ry
      obtain ⟨its', rv', pl', _⟩ := I.list hs'
      have hl' := pl'.isList
      rw [show deq (.t ds) (.l es) = false by rw [deq]; all_goals (intros; simp_all)]
      exact ⟨SeqAt.EqAt.tuple_list hl hl' hu', fun _ _ => SeqAt.RcAt.tuple_list hl hl' hu'⟩
    | t es =>
      have hy0 := hy
      rw [Is] at hy
      obtain ⟨q, ys, rfl, hs', hys⟩ := hy
      cases ry
      obtain ⟨its', rv', pl', _⟩ := I.tuple hs'
      have hl' : s.heap.IsTuple q its'.toArray := pl'
      have e1 : its.toArray.size = ds.length := by rw [List.size_toArray, ← rv.length, hxs.len]
      have e2 : its'.toArray.size = es.length := by rw [List.size_toArray, ← rv'.length, hys.len]
      have rc : SeqAt.RcAt A s (.ref p) (.ref q) (deq (.t ds) (.t es)) := by
        rw [deq]
        have := SeqAt.RcAt.tuples hl hl' hu' (elems ih hu I (by omega) hxs hys rv rv')
        rw [e1, e2] at this
        by_cases hz : ds.length = es.length
        · rw [← hz, Nat.min_self, all_deqAt hz, beq_self_eq_true, Bool.and_true] at this
          exact this
        · rw [deqL_ne hz]
          have : (ds.length == es.length) = false := by simpa using hz
          simp_all
      refine ⟨?_, fun _ _ => rc⟩
      by_cases hpq : p = q
      · subst hpq
        have := Is.inj _ I hx0 hy0 I.apart
        rw [← this, deq_refl _ hx0]
        exact SeqAt.EqAt.same _
      · exact SeqAt.EqAt.of_refs hpq rc
end
def rEqD (K : PySem.W.Frag) : R2 := fun x y H Q => ∃ p d e, x = .ref p ∧ Is K H x d ∧ Is K H y e ∧ dep d ≤ 50 ∧ Q (.bl (deq d e)) H
def rNeD (K : PySem.W.Frag) : R2 := fun x y H Q => ∃ p d e, x = .ref p ∧ Is K H x d ∧ Is K H y e ∧ dep d ≤ 50 ∧ Q (.bl (!deq d e)) H
section
variable {X : Cx}
theorem op_eqD {k : Nat} (hr : Room k X.A) : OpR X (compareOp .Eq) (rEqD X.K) := by
  intro pins s σ H x y v u Q I rx ry h
  obtain ⟨p, d, e, rfl, hx, hy, hd, q⟩ := h
  have := (rcAt_D 50 d e (A := X.A) hd (by have := hr.units; omega) I hx hy rx ry).2 p rfl
  exact this X.prog X.w X.xe _ ⟨.bl _, H, I, rfl, q⟩
end
end L2
set_option Elab.async false
set_option linter.all false
set_option maxRecDepth 100000
set_option maxHeartbeats 1000000
namespace L2
open PySem PySem.Spec PyProof.Rows
section
variable {X : Cx} {pins : List (Addr × Obj)} {σ : St} {H : Hp} {s : Shared}
theorem ih50 (n : Nat) (d e : Dt) {A : Around} {x y : V} {u v : Value} (a : dep d ≤ n) (b : A.units + n < cLine) (c : Inv X pins σ H s) (f : Is X.K H x d) (g : Is X.K H y e) (h : RelV x u) (i : RelV y v) : SeqAt.EqAt A s u v (deq d e) := (rcAt_D n d e a b c f g h i).1
theorem neAt_D (n : Nat) (d e : Dt) {A : Around} {p : Addr} {y : V} {v : Value} (hn : dep d ≤ n + 1) (hu : A.units + (n + 1) < cLine) (I : Inv X pins σ H s) (hx : Is X.K H (.ref p) d) (hy : Is X.K H y e) (ry : RelV y v) : SeqAt.RcNeAt A s (.ref p) v (!deq d e) := by
  have hu' : A.units < cLine := by omega
  cases d with
  | f x => rw [Is] at hx; obtain ⟨e, hz⟩ := hx; subst e; cases hz
  | l ds =>
    rw [dep] at hn
    rw [Is] at hx
    obtain ⟨p', xs, e0, hs, hxs⟩ := hx
    cases e0
    obtain ⟨its, rv, pl, _⟩ := I.list hs
    have hl := pl.isList
    cases e with
    | f y' =>
      rw [Is] at hy
      obtain ⟨rfl, fy⟩ := hy
      rw [show deq (.l ds) (.f y) = false by rw [deq]; all_goals (intros; simp_all)]
      cases y with
      | non => cases ry; exact SeqAt.RcNeAt.list_none hl hu'
      | bl b => cases ry; exact SeqAt.RcNeAt.list_bool b hl hu'
      | int i => obtain ⟨t, rfl⟩ := ry; exact SeqAt.RcNeAt.list_int i t hl hu'
      | str z => obtain ⟨t, rfl⟩ := ry; exact SeqAt.RcNeAt.list_str z t hl hu'
      | _ => cases fy
    | l es =>
      rw [Is] at hy
      obtain ⟨q, ys, rfl, hs', hys⟩ := hy
      cases ry
      obtain ⟨its', rv', pl', _⟩ := I.list hs'
      have hl' := pl'.isList
      have e1 : its.toArray.size = ds.length := by rw [List.size_toArray, ← rv.length, hxs.len]
      have e2 : its'.toArray.size = es.length := by rw [List.size_toArray, ← rv'.length, hys.len]
      rw [deq]
      by_cases hz : ds.length = es.length
      · have := SeqAt.RcNeAt.lists hl hl' (by omega) hu' (elems (ih50 n) hu I (by omega) hxs hys rv rv')
        rw [e1, all_deqAt hz] at this
        exact this
      · rw [deqL_ne hz]
        exact SeqAt.RcNeAt.lists_lengths hl hl' (by rw [bne_iff_ne]; omega) hu'
    | t es =>
      rw [Is] at hy
      obtain ⟨q, ys, rfl, hs', hys⟩ := hy
      cases ry
      obtain ⟨its', rv', pl', _⟩ := I.tuple hs'
      have hl' : s.heap.IsTuple q its'.toArray := pl'
      rw [show deq (.l ds) (.t es) = false by rw [deq]; all_goals (intros; simp_all)]
      exact SeqAt.RcNeAt.list_tuple hl hl' hu'
  | t ds =>
    rw [dep] at hn
    rw [Is] at hx
    obtain ⟨p', xs, e0, hs, hxs⟩ := hx
    cases e0
    obtain ⟨its, rv, pl, _⟩ := I.tuple hs
    have hl : s.heap.IsTuple p its.toArray := pl
    cases e with
    | f y' =>
      rw [Is] at hy
      obtain ⟨rfl, fy⟩ := hy
      rw [show deq (.t ds) (.f y) = false by rw [deq]; all_goals (intros; simp_all)]
      cases y with
      | non => cases ry; exact SeqAt.RcNeAt.tuple_none hl hu'
      | bl b => cases ry; exact SeqAt.RcNeAt.tuple_bool b hl hu'
      | int i => obtain ⟨t, rfl⟩ := ry; exact SeqAt.RcNeAt.tuple_int i t hl hu'
      | str z => obtain ⟨t, rfl⟩ := ry; exact SeqAt.RcNeAt.tuple_str z t hl hu'
      | _ => cases fy
    | l es =>
      rw [Is] at hy
      obtain ⟨q, ys, rfl, hs', hys⟩ := hy
      cases ry
      obtain ⟨its', rv', pl', _⟩ := I.list hs'
      have hl' := pl'.isList
      rw [show deq (.t ds) (.l es) = false by rw [deq]; all_goals (intros; simp_all)]
      exact SeqAt.RcNeAt.tuple_list hl hl' hu'
    | t es =>
      rw [Is] at hy
      obtain ⟨q, ys, rfl, hs', hys⟩ := hy
      cases ry
      obtain ⟨its', rv', pl', _⟩ := I.tuple hs'
      have hl' : s.heap.IsTuple q its'.toArray := pl'
      have e1 : its.toArray.size = ds.length := by rw [List.size_toArray, ← rv.length, hxs.len]
      have e2 : its'.toArray.size = es.length := by rw [List.size_toArray, ← rv'.length, hys.len]
      rw [deq]
      have := SeqAt.RcNeAt.tuples hl hl' hu' (elems (ih50 n) hu I (by omega) hxs hys rv rv')
      rw [e1, e2] at this
      by_cases hz : ds.length = es.length
      · rw [← hz, Nat.min_self, all_deqAt hz, beq_self_eq_true, Bool.and_true] at this
        exact this
      · rw [deqL_ne hz]
        have : (ds.length == es.length) = false := by simpa using hz
        simp_all
end
section
variable {X : Cx}
theorem op_neD {k : Nat} (hr : Room k X.A) : OpR X (compareOp .NotEq) (rNeD X.K) := by
  intro pins s σ H x y v u Q I rx ry h
  obtain ⟨p, d, e, rfl, hx, hy, hd, q⟩ := h
  cases rx
  have := neAt_D 50 d e (A := X.A) (by omega) (by have := hr.units; omega) I hx hy ry
  exact this X.prog X.w X.xe _ ⟨.bl _, H, I, rfl, q⟩
end
theorem isL_flat {K : PySem.W.Frag} {H : Hp} : ∀ {xs : List V}, xs.all flatV = true → IsL K H xs (xs.map Dt.f)
  | [], _ => by rw [List.map_nil, IsL]
  | x :: r, h => by
    rw [List.all_cons, Bool.and_eq_true] at h
    rw [List.map_cons, IsL]
    exact ⟨x, r, rfl, by rw [Is]; exact ⟨rfl, h.1⟩, isL_flat h.2⟩
theorem is_lst {K : PySem.W.Frag} {H : Hp} {p : Addr} {xs : List V} (h : SqL K H p xs) (f : xs.all flatV = true) : Is K H (.ref p) (.l (xs.map Dt.f)) := by rw [Is]; exact ⟨p, xs, rfl, h, isL_flat f⟩
theorem depL_flat : ∀ {xs : List V}, depL (xs.map Dt.f) = 0
  | [] => by rw [List.map_nil, depL]
  | x :: r => by rw [List.map_cons, depL, depL_flat, dep]; rfl
theorem dep_l {xs : List V} : dep (.l (xs.map Dt.f)) = 1 := by rw [dep, depL_flat]
theorem flat_ints (ns : List Int) : (ns.map V.int).all flatV = true := by rw [List.all_map]; simp [flatV]
theorem deqL_ints : ∀ (ns ms : List Int), deqL ((ns.map V.int).map Dt.f) ((ms.map V.int).map Dt.f) = decide (ns = ms)
  | [], [] => by simp [deqL]
  | [], m :: ms => by simp [deqL]
  | n :: ns, [] => by simp [deqL]
  | n :: ns, m :: ms => by
    rw [List.map_cons, List.map_cons, List.map_cons, List.map_cons, deqL, deqL_ints ns ms, deq]
    by_cases h1 : n = m <;> by_cases h2 : ns = ms <;> simp [eqV, h1, h2]
theorem deq_lints (ns ms : List Int) : deq (.l ((ns.map V.int).map Dt.f)) (.l ((ms.map V.int).map Dt.f)) = decide (ns = ms) := by rw [deq, deqL_ints]
theorem neLI {K : PySem.W.Frag} {H : Hp} {p q : Addr} {ns ms : List Int} {Q : VK} (h1 : SqL K H p (ns.map V.int)) (h2 : SqL K H q (ms.map V.int)) (h : Q (.bl (!decide (ns = ms))) H) : rNeD K (.ref p) (.ref q) H Q :=
  ⟨p, _, _, rfl, is_lst h1 (flat_ints _), is_lst h2 (flat_ints _), by rw [dep_l]; decide, by rw [deq_lints]; exact h⟩
def CompIt (J : It) (nt : Nat) (cs : List Nat) (g : TG) (tt : TT) (te : TE) (σ : St) (H1 : Hp) (Q : VK) : Prop := ∀ acc, H1 acc = none →
  ∃ W : Nat → Nat → List V → St → Hp → Prop, (∃ m, W 0 m [] (capSt nt cs σ) (upd H1 acc (.lst []))) ∧ ∀ i m ys σ' H', W i m ys σ' H' → H' acc = some (.lst ys) ∧
    ((J.stop i H' ∧ Q (.ref acc) H') ∨ (J.go i H' ∧ ys.length < sizeLine ∧ ∃ N : List V → St → Hp → Prop, (∀ zs σ2 H2, N zs σ2 H2 → ∃ m', m' < m ∧ W (i + 1) m' zs σ2 H2) ∧
      ∀ x H2, J.yld i H' x H2 → g x σ' H2 fun σ3 H3 => tt σ3 H3 fun b H4 => if b = true then te σ3 H4 fun y H5 => H5 acc = some (.lst ys) ∧ N (ys ++ [y]) σ3 (upd H5 acc (.lst (ys ++ [y]))) else N ys σ3 H4))
section
variable {K : PySem.W.Frag} {σ : St} {H : Hp} {Q : VK} {nt : Nat} {cs : List Nat} {g : TG} {tt : TT} {te : TE} {a : Addr}
theorem w_compL {tl : TE} : tComp (iList K tl) nt cs g tt te σ H Q = (tl σ H fun x H1 => ∃ a, x = .ref a ∧ (∃ xs, SqL K H1 a xs) ∧ CompIt (Itl K a) nt cs g tt te σ H1 Q) := rfl
theorem w_compT {tl : TE} : tComp (iTup K tl) nt cs g tt te σ H Q = (tl σ H fun x H1 => ∃ a, x = .ref a ∧ (∃ xs, SqT K H1 a xs) ∧ CompIt (Itt K a) nt cs g tt te σ H1 Q) := rfl
theorem w_comp1 {ta : TA} : tComp (iRng1 ta) nt cs g tt te σ H Q = (ta σ H fun vs H1 => ∃ j : Int, vs = [.int j] ∧ -(2 ^ 62) ≤ j ∧ j < 2 ^ 62 ∧ CompIt (Itr 0 j.toNat) nt cs g tt te σ H1 Q) := rfl
theorem w_yes {R : Bool → Hp → Prop} : tYes σ H R = R true H := rfl
def capV (cs : List Nat) (σ : St) : St := cs.map fun c => (σ[c]?).join
theorem comp_pure {J : It} {xs : List V} (f : V → Option V) (hz : xs.length ≤ sizeLine)
    (hJ : ∀ H', Same H H' → (∀ i, i < xs.length → J.go i H') ∧ (∀ i x H2, J.yld i H' x H2 → H2 = H' ∧ (i < xs.length → xs[i]? = some x)) ∧ J.stop xs.length H')
    (hb : ∀ x H' (R : Option V → Hp → Prop), x ∈ xs → Same H H' → R (f x) H' → tt (some x :: capV cs σ) H' fun b H4 => if b = true then te (some x :: capV cs σ) H4 fun y H5 => R (some y) H5 else R none H4)
    (hd : ∀ acc, H acc = none → Q (.ref acc) (upd H acc (.lst (xs.filterMap f)))) : CompIt J 1 cs (gName 0) tt te σ H Q := by
  intro acc hn
  have sm : ∀ ys, Same H (upd H acc (.lst ys)) := fun ys => same_new hn _
  refine ⟨fun i m ys σ' H' => m = xs.length - i ∧ i ≤ xs.length ∧ (∃ o, σ' = o :: capV cs σ) ∧ ys = (xs.take i).filterMap f ∧ H' = upd H acc (.lst ys), ⟨_, rfl, Nat.zero_le _, ⟨none, rfl⟩, by simp, rfl⟩, ?_⟩
  rintro i m ys σ' H' ⟨rfl, hi, ⟨o, rfl⟩, hys, rfl⟩
  refine ⟨upd_same, ?_⟩
  have hl : ys.length ≤ i := by
    rw [hys]
    exact Nat.le_trans (List.length_filterMap_le _ _) (by rw [List.length_take]; omega)
  by_cases hlt : i < xs.length
  · refine .inr ⟨(hJ _ (sm ys)).1 i hlt, by omega, fun zs σ2 H2 => (∃ o, σ2 = o :: capV cs σ) ∧ zs = (xs.take (i + 1)).filterMap f ∧ H2 = upd H acc (.lst zs), fun zs σ2 H2 ⟨q1, q2, q3⟩ => ⟨xs.length - (i + 1), by omega, rfl, hlt, q1, q2, q3⟩, fun x H2 y => ?_⟩
    obtain ⟨e, hx⟩ := (hJ _ (sm ys)).2.1 i x H2 y
    have hx := hx hlt
    subst e
    show tt (some x :: capV cs σ) _ _
    have tk : xs.take (i + 1) = xs.take i ++ [x] := by rw [List.take_add_one, hx]; rfl
    refine hb x _ (fun o H5 => match o with | some y => H5 acc = some (.lst ys) ∧ (∃ o, some x :: capV cs σ = o :: capV cs σ) ∧ ys ++ [y] = (xs.take (i + 1)).filterMap f ∧ upd H5 acc (.lst (ys ++ [y])) = upd H acc (.lst (ys ++ [y])) | none => (∃ o, some x :: capV cs σ = o :: capV cs σ) ∧ ys = (xs.take (i + 1)).filterMap f ∧ H5 = upd H acc (.lst ys)) (List.mem_of_getElem? hx) (sm ys) ?_
    cases hf : f x with
    | none =>
      refine ⟨⟨_, rfl⟩, ?_, rfl⟩
      rw [tk, List.filterMap_append, ← hys]
      simp [hf]
    | some y =>
      refine ⟨upd_same, ⟨_, rfl⟩, ?_, upd_upd⟩
      rw [tk, List.filterMap_append, ← hys]
      simp [hf]
  · have e : i = xs.length := by omega
    subst e
    rw [List.take_length] at hys
    subst hys
    exact .inl ⟨(hJ _ (sm _)).2.2, hd acc hn⟩
theorem comp_L {xs : List V} (h : SqL K H a xs) (hz : xs.length ≤ sizeLine) (f : V → Option V)
    (hb : ∀ x H' (R : Option V → Hp → Prop), x ∈ xs → Same H H' → R (f x) H' → tt (some x :: capV cs σ) H' fun b H4 => if b = true then te (some x :: capV cs σ) H4 fun y H5 => R (some y) H5 else R none H4)
    (hd : ∀ acc, H acc = none → Q (.ref acc) (upd H acc (.lst (xs.filterMap f)))) : CompIt (Itl K a) 1 cs (gName 0) tt te σ H Q :=
  comp_pure f hz (fun H' s => by
    have h' := s.seq h
    exact ⟨fun i hi => ⟨xs, xs[i], h', by simp [hi]⟩, fun i x H2 y => ⟨y.1, fun _ => y.2 xs h'⟩, ⟨xs, h', Nat.le_refl _⟩⟩) hb hd
theorem Same.seqT {K : PySem.W.Frag} {H H' : Hp} {a : Addr} {xs : List V} (e : Same H H') (h : SqT K H a xs) : SqT K H' a xs := by
  rcases h with (h | ⟨o, h⟩) | h
  · exact .inl (.inl (e _ _ h))
  · exact .inl (.inr ⟨o, e _ _ h⟩)
  · exact .inr h
def rngV (lo : Int) (n : Nat) : List V := (List.range n).map fun (i : Nat) => V.int (lo + (i : Int))
end
end L2
set_option Elab.async false
set_option linter.all false
set_option maxRecDepth 100000
set_option maxHeartbeats 1000000
namespace L2
open PySem PySem.Spec PyProof.Rows
section
variable {X : Cx}
theorem vals_bools : ∀ {bs : List Bool} {us : List Value}, Vals (bs.map V.bl) us → us = bs.map Value.bool
  | [], _, h => by cases h; rfl
  | b :: r, _, h => by
    cases h with
    | cons q t =>
      cases q
      rw [vals_bools t]
      rfl
theorem truth_bools {prog : Program} {w : World} {A : Around} {bs : List Bool} : TruthOf prog w A (fun i v => (bs.map Value.bool).toArray[i]? = some v) (fun i => bs.getD i true) := by
  intro i v s Q E h hq
  rw [List.getElem?_toArray, List.getElem?_map] at h
  cases e : bs[i]? with
  | none => rw [e] at h; cases h
  | some b =>
    rw [e] at h
    cases h
    have : bs.getD i true = b := by simp [List.getD, e]
    exact wpAny_truthy_bool (by rw [← this]; exact hq)
theorem all_getD : ∀ (bs : List Bool), (List.range bs.length).all (fun i => bs.getD i true) = bs.all id
  | [] => rfl
  | b :: r => by
    rw [List.length_cons, List.range_succ_eq_map, List.all_cons, List.all_map, List.all_cons]
    have : ((fun i => (b :: r).getD i true) ∘ Nat.succ) = fun i => r.getD i true := by funext i; simp [List.getD]
    rw [this, all_getD r]
    rfl
def rAll : List V → Hp → VK → Prop := fun xs H Q => ∃ (p : Addr) (bs : List Bool), xs = [.ref p] ∧ H p = some (.lst (bs.map V.bl)) ∧ Q (.bl (bs.all id)) H
theorem walk_list {pins : List (Addr × Obj)} {σ : St} {H : Hp} {s : Shared} {p : Addr} {xs : List V} (hc : X.calm = true) (I : Inv X pins σ H s) (hp : H p = some (.lst xs)) {Q : Value → Shared → Prop} {E : Value → Shared → Prop}
    (h : ∀ (its : List Value), Vals xs its → ∀ s2 : Shared, s2.heap.IsListIter s.heap.objs.size p 0 ∧ s2.heap.IsList p its.toArray → (∀ b ∈ [s.heap.objs.size, p], b < s2.heap.objs.size) → p ≠ s.heap.objs.size → Walks X.prog X.w X.A.in1 s.heap.objs.size [s.heap.objs.size, p] [s.heap.objs.size] its.toArray.size (fun i v => its.toArray[i]? = some v) (fun i h => h.IsListIter s.heap.objs.size p i ∧ h.IsList p its.toArray) →
      (∀ h' tk, (∀ b o, b ∉ [s.heap.objs.size] → s2.heap.get? b = some o → h'.get? b = some o) → Inv X pins σ H { s2 with heap := h', toks := tk }) → Q (.ref s.heap.objs.size) s2) : wpAny (model X.prog X.w) X.A.in1 (pyIter (.ref p)) Q E s := by
  obtain ⟨its, rv, pl, _⟩ := I.list (SqL.of hp)
  have hlt : p < s.heap.objs.size := I.hok.lt hp
  refine wpAny_pyIter_list pl.isList (h its rv _ ⟨⟨_, Heap.get?_push_size _ rfl, rfl, rfl⟩, pl.isList.push _⟩ (fun b hb => ?_) (Nat.ne_of_lt hlt) (Walks.list (A := X.A.in1) (I.ok.hd hc) _ p (Nat.ne_of_lt hlt) its.toArray) fun h' tk hk => ?_)
  · show b < (s.heap.push _).objs.size
    rw [Heap.size_push]
    rcases List.mem_cons.mp hb with e | e
    · rw [e]; exact Nat.lt_succ_self _
    · have : b = p := by simpa using e
      rw [this]; exact Nat.lt_succ_of_lt hlt
  · exact I.kept (h' := h') (t' := tk) fun b o e => hk b o (by simpa using Nat.ne_of_lt (Heap.lt_size e)) (Heap.get?_push_of_some _ e)
theorem call_all (hc : X.calm = true) : CallR X (.builtin "all") rAll := by
  intro pins s σ H xs us Q I r h
  obtain ⟨p, bs, rfl, hp, q⟩ := h
  obtain ⟨u, rfl, ru⟩ := Vals.one r
  cases ru
  refine call_all_walk (walk_list hc I hp fun its rv s2 st hfp hne W hI => ?_)
  have e := vals_bools rv
  subst e
  refine ⟨_, _, _, _, _, _, _, rfl, W, st, truth_bools, fun h' tk hk => ⟨.bl (bs.all id), H, hI h' tk hk, ?_, q⟩⟩
  have : (bs.map Value.bool).toArray.size = bs.length := by simp
  rw [this, all_getD]
  rfl
theorem vals_intItems : ∀ {ns : List Int} {us : List Value}, Vals (ns.map V.int) us → ∃ xs : List (Int × Tok), us = xs.map (fun p => Value.int p.1 p.2) ∧ xs.map (·.1) = ns
  | [], _, h => by cases h; exact ⟨[], rfl, rfl⟩
  | n :: r, _, h => by
    cases h with
    | cons q t =>
      obtain ⟨tk, rfl⟩ := q
      obtain ⟨xs, rfl, e⟩ := vals_intItems t
      exact ⟨(n, tk) :: xs, rfl, by simp [e]⟩
def rSum : List V → Hp → VK → Prop := fun xs H Q => ∃ (p : Addr) (ns : List Int), xs = [.ref p] ∧ H p = some (.lst (ns.map V.int)) ∧ Q (.int ns.sum) H
theorem call_sum (hc : X.calm = true) : CallR X (.builtin "sum") rSum := by
  intro pins s σ H xs us Q I r h
  obtain ⟨p, ns, rfl, hp, q⟩ := h
  obtain ⟨u, rfl, ru⟩ := Vals.one r
  cases ru
  obtain ⟨its, rv, pl, _⟩ := I.list (SqL.of hp)
  obtain ⟨xs, rfl, e⟩ := vals_intItems rv
  have hl : s.heap.IsList p (intItems xs.toArray) := by
    have := pl.isList
    rw [show (List.map (fun p => Value.int p.1 p.2) xs).toArray = intItems xs.toArray by unfold intItems; simp] at this
    exact this
  refine sum_intListG (I.ok.hd hc) hl fun h' tk t' hk => ⟨.int ns.sum, H, I.kept hk, ⟨t', ?_⟩, q⟩
  rw [preSum_eq, List.take_of_length_le (by simp), ← e]
def rBits : V → List V → Hp → VK → Prop := fun x vs H Q => ∃ i, x = .int i ∧ vs = [] ∧ Q (.int (Builtin.Int.intBits i : Nat)) H
theorem mt_bits : MtR X "int.bit_length" rBits := by
  intro pins s σ H x xs v us Q I rx rs h
  obtain ⟨i, rfl, rfl, q⟩ := h
  obtain ⟨t, rfl⟩ := rx
  cases rs
  exact call_gives slot_int_bit_length (typeIs_int s i t) entry_int_bit_length (args_int_bit_length _) (AutoIntG2.int_bit_length_int_0 i t) ⟨.int _, H, I.tok _, ⟨_, rfl⟩, q⟩
theorem w_rBits {i : Int} {H : Hp} {Q : VK} : rBits (.int i) [] H Q = Q (.int (Builtin.Int.intBits i : Nat)) H := propext ⟨fun ⟨j, e, _, q⟩ => by cases e; exact q, fun q => ⟨i, rfl, rfl, q⟩⟩
theorem w_tyInt {K : PySem.W.Frag} {i : Int} {H : Hp} : tyV K "int" (.int i) H = True := eq_true (by first | exact rfl | (unfold tyV; rfl) | (unfold tyV; simp))
end
section
variable {K : PySem.W.Frag} {σ : St} {H : Hp} {Q : VK}
theorem w_bm {T : String} {r : V → List V → Hp → VK → Prop} {to : TE} {t : TA} : tBM K T r to t σ H Q = (to σ H fun x H1 => tyV K T x H1 ∧ t σ H1 fun xs H2 => r x xs H2 Q) := rfl
theorem w_bm0 {T : String} {r : V → List V → Hp → VK → Prop} {to : TE} : tBM0 K T r to σ H Q = (to σ H fun x H1 => tyV K T x H1 ∧ r x [] H1 Q) := rfl
theorem w_append {l : Addr} {y : V} : rAppend (.ref l) [y] H Q = ∃ xs, H l = some (.lst xs) ∧ xs.length < sizeLine ∧ Q .non (upd H l (.lst (xs ++ [y]))) :=
  propext ⟨fun ⟨l', xs, y', e1, e2, h, z, q⟩ => by cases e1; cases e2; exact ⟨xs, h, z, q⟩, fun ⟨xs, h, z, q⟩ => ⟨l, xs, y, rfl, rfl, h, z, q⟩⟩
theorem ty_list {l : Addr} {xs : List V} (h : H l = some (.lst xs)) : tyV K "list" (.ref l) H := by
  first | exact .inl ⟨rfl, _, SqL.of h⟩ | (unfold tyV; exact .inl ⟨rfl, _, SqL.of h⟩)
end
end L2
set_option Elab.async false
set_option linter.all false
set_option maxRecDepth 100000
namespace L2
open PySem PySem.Spec PyProof.Rows PySem.W
end L2
set_option Elab.async false
set_option linter.all false
set_option maxRecDepth 100000
namespace L2
open PySem PySem.Spec PyProof.Rows
def gTupM (n : Nat) (t : TGs) : TG := fun v σ H Q => ∃ a xs, v = .ref a ∧ H a = some (.tup xs) ∧ xs.length = n ∧ t xs σ H Q
theorem pg_tupM {X : Cx} {es : List Expr} {k : Nat} {t : TGs} {pos : Pos} (n : Nat) (hc : X.calm = true) (h : PGs X es t) (hn : (assignEach es X.env).length = n := by rfl) (hst : (assignEach es X.env).findIdx? (·.1) = none := by rfl) : PG X (.Tuple es k pos) (gTupM n t) := by
  intro pins s σ H v u Q I r hw
  obtain ⟨a, xs, e1, hq, hl, hw⟩ := hw
  exact pg_tup (X := X) (n := n) hc h hn hst pins s σ H v u Q I r ⟨a, xs, e1, SqT.of hq, hl, hw⟩
section
variable {K : PySem.W.Frag} {σ : St} {H : Hp} {Q : VK} {R : St → Hp → Prop}
theorem w_gTupM {n : Nat} {t : TGs} {a : Addr} : gTupM n t (.ref a) σ H R = ∃ xs, H a = some (.tup xs) ∧ xs.length = n ∧ t xs σ H R :=
  propext ⟨fun ⟨a', xs, e, h, l, q⟩ => by cases e; exact ⟨xs, h, l, q⟩, fun ⟨xs, h, l, q⟩ => ⟨a, xs, rfl, h, l, q⟩⟩
theorem w_gCons {t : TG} {u : TGs} {v : V} {r : List V} : gCons t u (v :: r) σ H R = t v σ H fun σ' H' => u r σ' H' R :=
  propext ⟨fun ⟨v', r', e, q⟩ => by cases e; exact q, fun q => ⟨v, r, rfl, q⟩⟩
theorem w_gNil : gNil [] σ H R = R σ H := propext ⟨fun ⟨_, q⟩ => q, fun q => ⟨rfl, q⟩⟩
theorem isI_ll {t : Addr} {xs : List V} (h : H t = some (.lst xs)) : rIsI K [.ref t, .ty "list"] H Q = Q (.bl true) H := isI_mk (.lst h) (fun _ z => by cases z <;> first | rfl | (rename_i e; rw [h] at e; cases e) | (rename_i e _ _ _ _ _; rw [h] at e; cases e)) (kit_same _)
end
end L2
set_option Elab.async false
set_option linter.all false
set_option maxRecDepth 100000
namespace L2
open PySem PySem.Spec PyProof.Rows
def rDG : R2 := fun x y H Q => ∃ a k, x = .ref a ∧ y = kV k ∧ ∃ kvs, H a = some (.dK kvs) ∧ ∃ v, valV kvs k = some v ∧ Q v H
def rDP : V → V → V → Hp → (Hp → Prop) → Prop := fun x y v H R => ∃ a k, x = .ref a ∧ y = kV k ∧ ∃ kvs, H a = some (.dK kvs) ∧ kvs.length < sizeLine ∧ R (upd H a (.dK (putK kvs k v)))
def sDP (td ty tv : TE) : TS := fun D σ H => tv σ H fun v H1 => td σ H1 fun x H2 => ty σ H2 fun y H3 => rDP x y v H3 fun H4 => D.nx σ H4
def rDI (neg : Bool) : R2 := fun y x H Q => ∃ a k, x = .ref a ∧ y = kV k ∧ ∃ kvs, H a = some (.dK kvs) ∧ Q (.bl (if neg then !(valV kvs k).isSome else (valV kvs k).isSome)) H
section
variable {X : Cx} {o i e value : Expr} {pos pos' tpos : Pos} {td ty tv : TE}
theorem pe_dgM (hu : X.A.units + 1 < cLine) (ho : PE X o td) (hi : PE X i ty) (hs : NoSl i) : PE X (.Subscript o i pos) (tOp rDG td ty) := by
  intro pins s σ H Q I h
  refine subD_of PySem.F.slot_dict_getitem.lookup hs (thn (ho pins s σ H _ I h) fun u s1 ⟨x, H1, I1, rx, q1⟩ => thn (hi pins s1 σ H1 _ I1 q1) fun iv s2 ⟨y, H2, I2, ry, q2⟩ => ?_)
  obtain ⟨a, k, rfl, rfl, kvs, hk, v, hv, q⟩ := q2
  obtain rfl : u = Value.ref a := rx
  have g : DGet H2 a (kV k) (some v) := by rw [← hv]; exact DGet.k hk
  exact ⟨dict_typeIs I2 g, d_getItem hu I2 g ry fun w' s3 I3 rw' => ⟨v, H2, I3, rw', q⟩⟩
theorem ps_dpM (hu : X.A.units + 1 < cLine) (ho : PE X o td) (hi : PE X i ty) (hv : PE X value tv) (hs : swapsWith value (some (.Subscript o i pos')) pos.line X.env = pure false) : PS X (.Assign [.Subscript o i pos'] value pos) (sDP td ty tv) := by
  intro pins s σ H D I h
  refine wpAny_Assign_Subscript (thn (hv pins s σ H _ I h) fun r s1 ⟨v, H1, I1, rv, q1⟩ => thn (ho pins s1 σ H1 _ I1 q1) fun u s2 ⟨x, H2, I2, rx, q2⟩ => thn (hi pins s2 σ H2 _ I2 q2) fun iv s3 ⟨y, H3, I3, ry, q3⟩ => ?_) hs
  obtain ⟨a, k, rfl, rfl, kvs, hk, hz, q⟩ := q3
  obtain rfl : u = Value.ref a := rx
  exact d_setItem hu I3 (DPut.k (v := v) hk hz) ry rv fun s4 I4 => ⟨σ, _, I4, q⟩
end
section
variable {σ : St} {H : Hp} {Q : VK} {D : Ends} {a : Addr} {v : V} {R : Hp → Prop}
theorem kV_s {k : Key} {x : Str} : (V.str x = kV k) = (k = .inr x) := propext ⟨fun e => by cases k <;> cases e; rfl, fun e => by subst e; rfl⟩
theorem kV_i {k : Key} {x : Int} : (V.int x = kV k) = (k = .inl x) := propext ⟨fun e => by cases k <;> cases e; rfl, fun e => by subst e; rfl⟩
theorem w_dgS {x : Str} : rDG (.ref a) (.str x) H Q = ∃ kvs, H a = some (.dK kvs) ∧ ∃ v, valV kvs (.inr x) = some v ∧ Q v H :=
  propext ⟨fun ⟨a', k, e1, e2, q⟩ => by cases e1; rw [kV_s] at e2; subst e2; exact q, fun q => ⟨a, .inr x, rfl, rfl, q⟩⟩
theorem w_dgI {x : Int} : rDG (.ref a) (.int x) H Q = ∃ kvs, H a = some (.dK kvs) ∧ ∃ v, valV kvs (.inl x) = some v ∧ Q v H :=
  propext ⟨fun ⟨a', k, e1, e2, q⟩ => by cases e1; rw [kV_i] at e2; subst e2; exact q, fun q => ⟨a, .inl x, rfl, rfl, q⟩⟩
theorem w_sDP {td ty tv : TE} : sDP td ty tv D σ H = (tv σ H fun v H1 => td σ H1 fun x H2 => ty σ H2 fun y H3 => rDP x y v H3 fun H4 => D.nx σ H4) := rfl
theorem w_dpS {x : Str} : rDP (.ref a) (.str x) v H R = ∃ kvs, H a = some (.dK kvs) ∧ kvs.length < sizeLine ∧ R (upd H a (.dK (putK kvs (.inr x) v))) :=
  propext ⟨fun ⟨a', k, e1, e2, q⟩ => by cases e1; rw [kV_s] at e2; subst e2; exact q, fun q => ⟨a, .inr x, rfl, rfl, q⟩⟩
theorem w_dpI {x : Int} : rDP (.ref a) (.int x) v H R = ∃ kvs, H a = some (.dK kvs) ∧ kvs.length < sizeLine ∧ R (upd H a (.dK (putK kvs (.inl x) v))) :=
  propext ⟨fun ⟨a', k, e1, e2, q⟩ => by cases e1; rw [kV_i] at e2; subst e2; exact q, fun q => ⟨a, .inl x, rfl, rfl, q⟩⟩
theorem w_dII {neg : Bool} {x : Int} : rDI neg (.int x) (.ref a) H Q = ∃ kvs, H a = some (.dK kvs) ∧ Q (.bl (if neg then !(valV kvs (.inl x)).isSome else (valV kvs (.inl x)).isSome)) H :=
  propext ⟨fun ⟨a', k, e1, e2, q⟩ => by cases e1; rw [kV_i] at e2; subst e2; exact q, fun q => ⟨a, .inl x, rfl, rfl, q⟩⟩
theorem w_disp {trs : List (TE × TE)} : tDisp trs σ H Q = ∀ p, H p = none → tPairs trs σ (upd H p (.dK [])) fun ps H2 => H2 p = some (.dK []) ∧ ∃ kvs : List (Key × V), ps = kvs.map (fun kv => (kV kv.1, kv.2)) ∧ kvs.length ≤ 15 ∧ Q (.ref p) (upd H2 p (.dK (mergeK [] kvs))) := rfl
end
def penKV (a : Addr) (at_ l : Int) : List (Key × V) := [(.inr "script", .ref a), (.inr "at", .int at_), (.inr "left", .int l)]
theorem pen_s {a : Addr} {t l : Int} : valV (penKV a t l) (.inr "script") = some (.ref a) := by unfold penKV; rw [valV_pos rfl]
theorem key_sa : ¬ (Sum.inr "script" : Key) = (Sum.inr "at" : Key) := by decide
theorem key_sl : ¬ (Sum.inr "script" : Key) = (Sum.inr "left" : Key) := by decide
theorem key_al : ¬ (Sum.inr "at" : Key) = (Sum.inr "left" : Key) := by decide
theorem pen_a {a : Addr} {t l : Int} : valV (penKV a t l) (.inr "at") = some (.int t) := by unfold penKV; rw [valV_neg key_sa, valV_pos rfl]
theorem pen_l {a : Addr} {t l : Int} : valV (penKV a t l) (.inr "left") = some (.int l) := by unfold penKV; rw [valV_neg key_sl, valV_neg key_al, valV_pos rfl]
theorem pen_len {a : Addr} {t l : Int} : ((penKV a t l).length < sizeLine) = True := eq_true (Nat.lt_of_lt_of_le (by decide : 3 < 1000) (le_size (by decide)))
theorem pen_pa {a : Addr} {t l x : Int} : putK (penKV a t l) (.inr "at") (.int x) = penKV a x l := by
  unfold putK
  rw [valV_any, pen_a]
  rfl
theorem pen_pl {a : Addr} {t l x : Int} : putK (penKV a t l) (.inr "left") (.int x) = penKV a t x := by
  unfold putK
  rw [valV_any, pen_l]
  rfl
theorem pen_mk {a : Addr} {t l : Int} : mergeK [] (penKV a t l) = penKV a t l := by
  unfold mergeK penKV
  rfl
def Pen (H : Hp) (p a : Addr) (c : Int) : Prop := ∃ t l : Int, H p = some (.dK (penKV a t l)) ∧ 0 ≤ t ∧ t ≤ c ∧ 0 ≤ l
theorem Pen.mono {H : Hp} {p a : Addr} {c d : Int} (h : Pen H p a c) (l : c ≤ d) : Pen H p a d := by
  obtain ⟨t, x, e, h0, h1, h2⟩ := h
  exact ⟨t, x, e, h0, by omega, h2⟩
theorem Pen.same {H H' : Hp} {p a : Addr} {c : Int} (h : Pen H p a c) (s : Same H H') : Pen H' p a c := by
  obtain ⟨t, x, e, r⟩ := h
  exact ⟨t, x, s _ _ e, r⟩
theorem Pen.dK {H : Hp} {p a : Addr} {c : Int} (h : Pen H p a c) : ∃ kvs, H p = some (.dK kvs) := by
  obtain ⟨t, x, e, r⟩ := h
  exact ⟨_, e⟩
theorem pen_of {H : Hp} {p a : Addr} {t l c : Int} (h0 : 0 ≤ t) (h1 : t ≤ c) (h2 : 0 ≤ l) : Pen (upd H p (.dK (penKV a t l))) p a c := ⟨t, l, upd_same, h0, h1, h2⟩
theorem Scr.pen {K : PySem.W.Frag} {H H' : Hp} {p a : Addr} {c : Int} {ns : List Int} (h : Scr K H a ns) (hp : Pen H p a c) (s : Chg p H H') : Scr K H' a ns := by
  obtain ⟨kvs, e⟩ := hp.dK
  exact h.chgD e s
def spPen (K : PySem.W.Frag) : Sp := fun vs H Q _ => ∃ (a : Addr), vs = [.ref a] ∧ ∀ p H', H p = none → Same H H' → Pen H' p a 0 → Q (.ref p) H'
def spDraw (K : PySem.W.Frag) : Sp := fun vs H Q _ => ∃ (p a : Addr) (ns : List Int) (m c : Int), vs = [.ref p, .int m] ∧ Pen H p a c ∧ Scr K H a ns ∧ ns.length ≤ 63 ∧ c ≤ 1000000000 ∧ 1 ≤ m ∧ m < 2 ^ 64 ∧
  ∀ (r : Int) H', 0 ≤ r → r < m → Pen H' p a (c + 1) → Scr K H' a ns → Chg p H H' → Q (.int r) H'
theorem draw_ {K : PySem.W.Frag} {H : Hp} {p a : Addr} {ns : List Int} {m c : Int} {Q : VK} {E : XK} (hP : Pen H p a c) (hS : Scr K H a ns) (h63 : ns.length ≤ 63) (hc : c ≤ 1000000000) (h1 : 1 ≤ m) (h2 : m < 2 ^ 64)
    (q : ∀ (r : Int) H', 0 ≤ r → r < m → Pen H' p a (c + 1) → Scr K H' a ns → Chg p H H' → Q (.int r) H') : spDraw K [.ref p, .int m] H Q E := ⟨p, a, ns, m, c, rfl, hP, hS, h63, hc, h1, h2, q⟩
end L2
set_option Elab.async false
set_option linter.all false
set_option maxRecDepth 100000
namespace L2
open PySem PySem.Spec PyProof.Rows
def Itv (K : PySem.W.Frag) (a : Addr) (n : Nat) : It :=
  ⟨fun i H => i < n ∧ ∃ xs, SqL K H a xs ∧ xs.length = n, fun i H x H' => H' = H ∧ ∀ xs, SqL K H a xs → xs.length = n → xs[n - 1 - i]? = some x, fun i H => i = n⟩
theorem turn_rev {P : Program} {w : World} {K : PySem.W.Frag} {tg : Expr} (a it : Addr) (n : Nat) : Turn P w K tg (Itv K a n) [it] it (fun i h => i ≤ n ∧ h.IsRevIter it a ((n : Int) - 1 - (i : Int))) where
  mem := by simp
  obj := fun i h st b hb => by
    have e : b = it := by simpa using hb
    subst e
    obtain ⟨_, o, e, c, d⟩ := st
    exact ⟨o, e, fun v z => by rw [d] at z; cases z⟩
  keep := fun i h h' st k => ⟨st.1, st.2.at fun o e => k it (by simp) o e⟩
  item := by
    intro X hP hw hK hc i pins s σ H E I hf st hg
    subst hP hw hK
    obtain ⟨hi, xs, hq, hn⟩ := hg
    obtain ⟨its, rv, p, hz⟩ := I.list hq
    have hlt : n - 1 - i < xs.length := by omega
    obtain ⟨u, hu, ru⟩ := rv.get (List.getElem?_eq_getElem hlt)
    obtain ⟨f0, f1, f2, f3, f4, f5⟩ := hf it (by simp)
    have e1 : (n : Int) - 1 - (i : Int) = ((n - 1 - i : Nat) : Int) := by omega
    have st2 := st.2
    rw [e1] at st2
    refine wpAny_pyNext_rev_item st2 p.isList (x := u) (by simpa using hu) fun h' st' sb => ?_
    have I1 : Inv X pins σ H { s with heap := h' } := I.turned (t' := s.toks) (fun b o hb e => (sb.2 b hb).trans e) f0 f1 f3 f4 f5
    obtain ⟨o, e, c, d⟩ := id st'
    have e2 : ((n - 1 - i : Nat) : Int) - 1 = (n : Int) - 1 - ((i + 1 : Nat) : Int) := by omega
    rw [e2] at st'
    exact ⟨u, rfl, go_of (s := { s with heap := h' }) e c d (by decide) ⟨xs[n - 1 - i], H, I1, ru, ⟨rfl, fun ys hy _ => by rw [I.list_inj hy hq]; exact List.getElem?_eq_getElem hlt⟩, ⟨hi, st'⟩, fun b hb => (hf b hb).1⟩⟩
  done := by
    intro X hP hw hK hc i pins s σ H E I hf st hg
    subst hP hw hK
    obtain ⟨f0, f1, f2, f3, f4, f5⟩ := hf it (by simp)
    have hg : i = n := hg
    have st2 := st.2
    rw [show (n : Int) - 1 - (i : Int) = -1 by omega] at st2
    exact wpAny_pyNext_rev_end (I.ok.hd hc) st2 fun h' eb => ⟨rfl, I.turned (t' := s.toks) (fun b o hb e => eb b o hb e) f0 f1 f3 f4 f5⟩
  self := fun _ _ _ _ _ st h => wpAny_pyIter_revIter st.2 h
def iRev (K : PySem.W.Frag) (ta : TA) : TI := fun σ H R => ta σ H fun vs H1 => ∃ a xs, vs = [.ref a] ∧ SqL K H1 a xs ∧ R (Itv K a xs.length) H1
theorem pi_rev {X : Cx} {tg a : Expr} {ta : TA} {p pos : Pos} (hg : Gl X "reversed") (hm : X.mg "reversed" = none) (ha : PA X [a] ta) (hs : starEach [a] X.env = [(false, eval a X.env)] := by rfl) : PI X tg (.Call (.Name "reversed" p) [a] [] pos) (iRev X.K ta) := by
  intro pins s σ H R I h
  refine Call_ (ld_blt I hg hm bo_reversed (PyProof.Rows.callWith_type1 (thn (ha pos pins s σ H _ I h) fun us s1 ⟨vs, H1, I1, r1, q1⟩ => ?_) hs rfl))
  obtain ⟨l, xs, e, hq, q⟩ := q1
  subst e
  obtain ⟨u, rfl, ru⟩ := Vals.one r1
  cases ru
  obtain ⟨its, rv, pl, hz⟩ := I1.list hq
  have hlen : its.toArray.size = xs.length := by rw [List.size_toArray, rv.length]
  refine call_reversed_list pl.isList ?_
  rw [hlen]
  have I2 : Inv X pins σ H1 { s1 with heap := s1.heap.push (revObj l ((xs.length : Int) - 1)) } := I1.kept (t' := s1.toks) fun b o e => Heap.get?_push_of_some _ e
  have st : (s1.heap.push (revObj l ((xs.length : Int) - 1))).IsRevIter s1.heap.objs.size l ((xs.length : Int) - 1 - ((0 : Nat) : Int)) := by
    rw [show (xs.length : Int) - 1 - ((0 : Nat) : Int) = (xs.length : Int) - 1 by omega]
    exact ⟨_, Heap.get?_push_size _ rfl, rfl, rfl⟩
  refine wpAny_pyIter_revIter st ?_
  refine ⟨s1.heap.objs.size, [s1.heap.objs.size], _, _, H1, rfl, I2, turn_rev l _ xs.length, ⟨Nat.zero_le _, st⟩, fun b hb => ?_, q⟩
  have e : b = s1.heap.objs.size := by simpa using hb
  subst e
  exact I1.fpOk (Nat.le_refl _) (I1.hok.fresh (Nat.le_refl _))
def ForV (K : PySem.W.Frag) (a : Addr) (n : Nat) (g : TG) (tb : TS) (D : Ends) (σ : St) (H : Hp) : Prop := ∃ W : Nat → Nat → St → Hp → Prop, (∃ m, W 0 m σ H) ∧ ∀ i m σ H, W i m σ H →
  ((Itv K a n).stop i H ∧ D.nx σ H) ∨ ((Itv K a n).go i H ∧ ∃ N : St → Hp → Prop, (∀ σ' H', N σ' H' → ∃ m', m' < m ∧ W (i + 1) m' σ' H') ∧ ∀ x H', (Itv K a n).yld i H x H' → g x σ H' fun σ2 H2 => tb { D with nx := N, ct := N, bk := D.nx } σ2 H2)
section
variable {σ : St} {H : Hp} {D : Ends} {g : TG} {tb : TS} {K : PySem.W.Frag} {a : Addr}
theorem w_forV {ta : TA} : tFor (iRev K ta) g tb D σ H = (ta σ H fun vs H1 => ∃ a xs, vs = [.ref a] ∧ SqL K H1 a xs ∧ ForV K a xs.length g tb D σ H1) := rfl
theorem forV {xs : List V} (Pv : Nat → St → Hp → Prop) (h0 : Pv 0 σ H) (hl : ∀ i σ H, i ≤ xs.length → Pv i σ H → SqL K H a xs)
    (hs : ∀ i x σ H (N : St → Hp → Prop), xs.reverse[i]? = some x → Pv i σ H → (∀ σ' H', Pv (i + 1) σ' H' → N σ' H') → g x σ H fun σ2 H2 => tb { D with nx := N, ct := N, bk := D.nx } σ2 H2) (hd : ∀ σ H, Pv xs.length σ H → D.nx σ H) : ForV K a xs.length g tb D σ H := by
  refine ⟨fun i m σ H => m = xs.length - i ∧ i ≤ xs.length ∧ Pv i σ H, ⟨xs.length, by simp, Nat.zero_le _, h0⟩, ?_⟩
  rintro i m σ H ⟨rfl, hi, p⟩
  have q := hl i σ H hi p
  by_cases hlt : i < xs.length
  · refine .inr ⟨⟨hlt, xs, q, rfl⟩, Pv (i + 1), fun σ' H' p' => ⟨xs.length - (i + 1), by omega, rfl, hlt, p'⟩, fun x H' y => ?_⟩
    obtain ⟨e, y⟩ := y
    subst e
    refine hs i x σ _ (Pv (i + 1)) ?_ p fun _ _ z => z
    rw [List.getElem?_reverse hlt]
    exact y xs q rfl
  · have e : i = xs.length := by omega
    subst e
    exact .inl ⟨rfl, hd σ H p⟩
end
end L2
set_option Elab.async false
set_option linter.all false
set_option maxRecDepth 100000
namespace L2
open PySem
def fs (n : Int) : Int := if n % 2 = 0 then 0 else 2 - n % 4
def nafF : Nat → Int → List Int
  | 0, _ => []
  | k + 1, n => if n = 0 then [] else fs n :: nafF k ((n - fs n) / 2)
def naf (n : Int) : List Int := nafF n.natAbs n
theorem fs_cases (n : Int) : (fs n = 0 ∧ n % 2 = 0) ∨ (fs n = 1 ∧ n % 4 = 1) ∨ (fs n = -1 ∧ n % 4 = 3) := by
  unfold fs
  split <;> omega
theorem fs_lt {n : Int} (h : n ≠ 0) : ((n - fs n) / 2).natAbs < n.natAbs := by
  rcases fs_cases n with ⟨e, _⟩ | ⟨e, _⟩ | ⟨e, _⟩ <;> rw [e] <;> omega
theorem nafF_fuel : ∀ (k : Nat) (n : Int), n.natAbs ≤ k → nafF k n = nafF n.natAbs n := by
  intro k
  induction k using Nat.strongRecOn with
  | ind k ih =>
    intro n h
    by_cases z : n = 0
    · subst z
      cases k <;> simp [nafF]
    · obtain ⟨k', rfl⟩ : ∃ k', k = k' + 1 := ⟨k - 1, by omega⟩
      obtain ⟨j, hj⟩ : ∃ j, n.natAbs = j + 1 := ⟨n.natAbs - 1, by omega⟩
      have lt := fs_lt z
      rw [hj, nafF, nafF, if_neg z, if_neg z, ih k' (by omega) _ (by omega)]
      by_cases e : k' = j
      · subst e
        rw [ih k' (by omega) _ (by omega)]
      · rw [ih j (by omega) _ (by omega)]
theorem naf_zero : naf 0 = [] := rfl
theorem naf_step {n : Int} (h : n ≠ 0) : naf n = fs n :: naf ((n - fs n) / 2) := by
  have lt := fs_lt h
  obtain ⟨j, hj⟩ : ∃ j, n.natAbs = j + 1 := ⟨n.natAbs - 1, by omega⟩
  unfold naf
  rw [hj, nafF, if_neg h, nafF_fuel j _ (by omega)]
theorem naf_ind {p : Int → Prop} (h0 : p 0) (hs : ∀ n, n ≠ 0 → p ((n - fs n) / 2) → p n) : ∀ n, p n := by
  have all : ∀ k (n : Int), n.natAbs ≤ k → p n := by
    intro k
    induction k with
    | zero => intro n h; have : n = 0 := by omega
              subst this; exact h0
    | succ k ih =>
      intro n h
      by_cases z : n = 0
      · subst z; exact h0
      · exact hs n z (ih _ (by have := fs_lt z; omega))
  exact fun n => all n.natAbs n (Nat.le_refl _)
def val : List Int → Int
  | [] => 0
  | d :: r => d + 2 * val r
theorem fs_neg (n : Int) : fs (-n) = -fs n := by
  rcases fs_cases n with ⟨e, _⟩ | ⟨e, _⟩ | ⟨e, _⟩ <;> rcases fs_cases (-n) with ⟨e', _⟩ | ⟨e', _⟩ | ⟨e', _⟩ <;> rw [e, e'] <;> omega
theorem naf_neg : ∀ n, naf (-n) = (naf n).map fun d => 0 - d := naf_ind rfl fun n h ih => by
  rw [naf_step h, naf_step (n := -n) (by omega), List.map_cons, ← ih, fs_neg]
  have e : (-n - -fs n) / 2 = -((n - fs n) / 2) := by
    rcases fs_cases n with ⟨e, _⟩ | ⟨e, _⟩ | ⟨e, _⟩ <;> rw [e] <;> omega
  rw [e, Int.zero_sub]
theorem naf_dbl {n : Int} (h : n ≠ 0) : naf (2 * n) = 0 :: naf n := by
  have e : fs (2 * n) = 0 := by unfold fs; rw [if_pos (by omega)]
  rw [naf_step (n := 2 * n) (by omega), e]
  congr 2
  omega
theorem naf_shl {n : Int} (h : n ≠ 0) : ∀ k : Nat, naf (n * 2 ^ k) = List.replicate k 0 ++ naf n
  | 0 => by simp
  | k + 1 => by
    have p := pow_pos2 k
    have e : n * 2 ^ (k + 1) = 2 * (n * 2 ^ k) := by rw [Int.pow_succ, ← Int.mul_assoc, Int.mul_comm]
    rw [e, naf_dbl (Int.mul_ne_zero h (by omega)), naf_shl h k, List.replicate_succ]
    rfl
theorem naf_len : ∀ (k : Nat) (n : Int), n.natAbs < 2 ^ k → (naf n).length ≤ k + 1
  | 0, n, h => by
    have : n = 0 := by omega
    subst this
    simp [naf_zero]
  | k + 1, n, h => by
    by_cases z : n = 0
    · subst z
      simp [naf_zero]
    · rw [naf_step z, List.length_cons]
      by_cases z2 : (n - fs n) / 2 = 0
      · rw [z2, naf_zero]
        simp
      · have hp : 2 ^ (k + 1) = 2 * 2 ^ k := by rw [Nat.pow_succ, Nat.mul_comm]
        rcases Nat.lt_or_ge ((n - fs n) / 2).natAbs (2 ^ k) with l | l
        · have := naf_len k _ l
          omega
        · -- the only number left is the power itself
          have e : (n - fs n) / 2 = 2 ^ k ∨ (n - fs n) / 2 = -(2 ^ k) := by
            have hc : ((2 ^ k : Nat) : Int) = (2 : Int) ^ k := by rw [Int.natCast_pow]; rfl
            rcases fs_cases n with ⟨e, _⟩ | ⟨e, _⟩ | ⟨e, _⟩ <;> rw [e] at l ⊢ <;> omega
          have len : (naf ((2 : Int) ^ k)).length = k + 1 := by
            have := naf_shl (n := 1) (by decide) k
            rw [Int.one_mul] at this
            rw [this]
            simp [show naf 1 = [1] from rfl]
          rcases e with e | e
          · rw [e, len]
            omega
          · rw [e, naf_neg, List.length_map, len]
            omega
def dig3 (n : Int) (p : Nat) : Int := (3 * n) / 2 ^ p % 2 - n / 2 ^ p % 2
theorem half_pow (n : Int) {i : Nat} : n / 2 / 2 ^ i = n / 2 ^ (i + 1) := by
  rw [Int.pow_succ, Int.mul_comm, Int.ediv_ediv_of_nonneg (by decide)]
theorem c_lem : ∀ (t : Nat) (j : Int), (3 * j - 1) / 2 ^ t % 2 - (j - 1) / 2 ^ t % 2 = (3 * j) / 2 ^ t % 2 - j / 2 ^ t % 2
  | 0, j => by simp; omega
  | t + 1, j => by
    rw [← half_pow (3 * j - 1), ← half_pow (j - 1), ← half_pow (3 * j), ← half_pow j]
    by_cases e : j % 2 = 0
    · have h := c_lem t (j / 2)
      have e1 : (3 * j - 1) / 2 = 3 * (j / 2) - 1 := by omega
      have e2 : (j - 1) / 2 = j / 2 - 1 := by omega
      have e3 : 3 * j / 2 = 3 * (j / 2) := by omega
      rw [e1, e2, e3]
      exact h
    · have e1 : (3 * j - 1) / 2 = 3 * j / 2 := by omega
      have e2 : (j - 1) / 2 = j / 2 := by omega
      rw [e1, e2]
theorem dig3_step {n : Int} (hn : n ≠ 0) (p : Nat) : dig3 n (p + 2) = dig3 ((n - fs n) / 2) (p + 1) := by
  unfold dig3
  have d2 : ∀ (x : Int) (i : Nat), x / 2 ^ (i + 1) = x / 2 / 2 ^ i := fun x i => (half_pow x).symm
  rw [d2 (3 * n), d2 n, d2 (3 * n / 2), d2 (n / 2), d2 (3 * ((n - fs n) / 2)), d2 ((n - fs n) / 2)]
  rcases fs_cases n with ⟨e, h⟩ | ⟨e, h⟩ | ⟨e, h⟩
  · rw [e]
    have a1 : 3 * n / 2 / 2 = 3 * ((n - 0) / 2) / 2 := by omega
    have a2 : n / 2 / 2 = (n - 0) / 2 / 2 := by omega
    rw [a1, a2]
  · rw [e]
    have a1 : 3 * n / 2 / 2 = 3 * ((n - 1) / 2) / 2 := by omega
    have a2 : n / 2 / 2 = (n - 1) / 2 / 2 := by omega
    rw [a1, a2]
  · rw [e]
    have a1 : 3 * n / 2 / 2 = 3 * ((n - -1) / 2 / 2) - 1 := by omega
    have a2 : n / 2 / 2 = (n - -1) / 2 / 2 - 1 := by omega
    have a3 : 3 * ((n - -1) / 2) / 2 = 3 * ((n - -1) / 2 / 2) := by omega
    rw [a1, a2, a3]
    exact c_lem p _
theorem dig3_one {n : Int} (hn : n ≠ 0) : dig3 n 1 = fs n := by
  unfold dig3
  rw [Int.pow_one]
  rcases fs_cases n with ⟨e, h⟩ | ⟨e, h⟩ | ⟨e, h⟩ <;> rw [e] <;> omega
theorem no12 {j : Int} (hj : 0 < j) (k : Nat) : 12 * j ≠ 2 ^ k := by
  intro h
  have all : ∀ k : Nat, (2 : Int) ^ k % 3 ≠ 0 := by
    intro k
    induction k with
    | zero => decide
    | succ k ih => rw [Int.pow_succ]; omega
  have := all k
  rw [← h] at this
  omega
theorem more_step {n : Int} (hn : 0 < n) (p : Nat) : (0 < (3 * n) / 2 ^ (p + 2)) ↔ (0 < (3 * ((n - fs n) / 2)) / 2 ^ (p + 1)) := by
  have P := pow_pos2 p
  have q1 : ∀ (x : Int) (k : Nat), 0 < x / 2 ^ k ↔ 2 ^ k ≤ x := fun x k => by
    have := pow_pos2 k
    rw [show (0 < x / 2 ^ k) ↔ (1 ≤ x / 2 ^ k) from Iff.rfl, Int.le_ediv_iff_mul_le this, Int.one_mul]
  rw [q1, q1]
  have e2 : (2 : Int) ^ (p + 2) = 4 * 2 ^ p := by rw [Int.pow_succ, Int.pow_succ]; omega
  have e1 : (2 : Int) ^ (p + 1) = 2 * 2 ^ p := by rw [Int.pow_succ]; omega
  rcases fs_cases n with ⟨e, h⟩ | ⟨e, h⟩ | ⟨e, h⟩
  · rw [e, e2, e1]; omega
  · rw [e, e2, e1]; omega
  · have no := no12 (j := (n + 1) / 4) (by omega) (p + 2)
    rw [e2] at no
    rw [e, e2, e1]
    omega
theorem m_nonneg {n : Int} (h : 0 < n) : 0 ≤ (n - fs n) / 2 := by
  rcases fs_cases n with ⟨e, _⟩ | ⟨e, _⟩ | ⟨e, _⟩ <;> rw [e] <;> omega
theorem naf_bits : ∀ (k : Nat) (n : Int), 0 ≤ n → ((k < (naf n).length ↔ 0 < (3 * n) / 2 ^ (k + 1)) ∧ (∀ d, (naf n)[k]? = some d → d = dig3 n (k + 1))) := by
  intro k
  induction k with
  | zero =>
    intro n h
    by_cases z : n = 0
    · subst z
      simp [naf_zero]
    · rw [naf_step z]
      refine ⟨?_, fun d hd => ?_⟩
      · simp only [List.length_cons, Nat.zero_add, Int.pow_one]
        omega
      · simp only [List.getElem?_cons_zero, Option.some.injEq] at hd
        rw [← hd, Nat.zero_add, dig3_one z]
  | succ k ih =>
    intro n h
    by_cases z : n = 0
    · subst z
      simp [naf_zero]
    · obtain ⟨a, b⟩ := ih _ (m_nonneg (n := n) (by omega))
      rw [naf_step z]
      refine ⟨?_, fun d hd => ?_⟩
      · rw [List.length_cons, Nat.add_lt_add_iff_right, a]
        exact (more_step (by omega) k).symm
      · simp only [List.getElem?_cons_succ] at hd
        rw [b d hd, dig3_step z]
end L2
set_option Elab.async false
set_option linter.all false
set_option maxRecDepth 100000
namespace L2
open PySem PySem.Spec PyProof.Rows
theorem and1 (x : Int) : Builtin.bitAnd x 1 = x % 2 := by
  have := PySem.W.kbt_mask x 1
  simpa using this
theorem and3 (x : Int) : Builtin.bitAnd x 3 = x % 4 := by
  have := PySem.W.kbt_mask x 2
  simpa using this
def spFirst : Sp := fun vs H Q _ => ∃ n : Int, vs = [.int n] ∧ Q (.int (fs n)) H
def spSigns : Sp := fun vs H Q _ => ∃ n : Int, vs = [.int n] ∧ n.natAbs < 2 ^ 5000 ∧ ∀ r, H r = none → Q (.ref r) (upd H r (.lst ((naf n).map V.int)))
def wt (ds : List Int) : Nat := (ds.filter fun d => decide (d ≠ 0)).length
def spLeast : Sp := fun vs H Q _ => ∃ n : Int, vs = [.int n] ∧ n.natAbs < 2 ^ 5000 ∧ ∀ H', Same H H' → Q (.int (wt (naf n) : Int)) H'
def spWhole : Sp := fun vs H Q _ => ∃ i : Int, vs = [.int i] ∧ Q (.bl true) H
def spSum : Sp := fun vs H Q _ => ∃ (a : Addr) (ds : List Int), vs = [.ref a] ∧ H a = some (.lst (ds.map V.int)) ∧ ds.length ≤ 10000 ∧ (∀ d ∈ ds, d = -1 ∨ d = 0 ∨ d = 1) ∧ Q (.int (val ds)) H
theorem val_app : ∀ (a b : List Int), val (a ++ b) = val a + 2 ^ a.length * val b
  | [], b => by simp [val]
  | d :: r, b => by
    rw [List.cons_append, val, val, val_app r b, List.length_cons, Int.pow_succ, Int.mul_add, Int.mul_comm (2 ^ r.length) 2, Int.mul_assoc]
    omega
theorem val_take {ds : List Int} {i : Nat} {d : Int} (h : ds[i]? = some d) : val (ds.take (i + 1)) = val (ds.take i) + d * 2 ^ i := by
  have hi : i < ds.length := (List.getElem?_eq_some_iff.mp h).1
  rw [List.take_add_one, h]
  show val (ds.take i ++ [d]) = _
  rw [val_app, List.length_take, Nat.min_eq_left (Nat.le_of_lt hi)]
  simp [val, Int.mul_comm]
def tWhl (c : TT) (tb : TS) : TS := fun D σ H => ∃ W : Nat → St → Hp → Prop, (∃ m, W m σ H) ∧ ∀ m σ H, W m σ H → ∀ N : St → Hp → Prop, (∀ m' σ' H', m' < m → W m' σ' H' → N σ' H') →
  c σ H fun b H1 => if b = true then tb { D with nx := N, ct := N, bk := D.nx } σ H1 else D.nx σ H1
theorem ps_whl {X : Cx} {pos : Pos} {c : Expr} {body : List Stmt} {tc : TT} {tb : TS} (hp : PassesOwn (model X.prog X.w) X.A X.env X.xe) (hc : PT X c tc) (hb : PSs X body tb) : PS X (.While c body [] pos) (tWhl tc tb) := by
  intro pins s σ H D I h
  obtain ⟨W, ⟨m0, w0⟩, turn⟩ := h
  refine wpAny_While (codeAny_whileLoop (fun n s' => ∃ σ' H', Inv X pins σ' H' s' ∧ W n σ' H') ?_ m0 ⟨σ, H, I, w0⟩)
  rintro n s1 ⟨σ1, H1, I1, w1⟩
  refine wpAny_passesOwn hp (thn (hc pins s1 σ1 H1 _ I1 (turn n σ1 H1 w1 (fun σ' H' => ∃ m', m' < n ∧ W m' σ' H') fun m' _ _ l z => ⟨m', l, z⟩)) fun b s2 ⟨H2, I2, q2⟩ => ?_)
  cases b with
  | true =>
    rw [if_pos rfl] at q2 ⊢
    refine wpAny_passesOwn hp (thn (hb pins s2 σ1 H2 _ I2 q2) fun f s3 q3 => ?_)
    cases f with
    | next =>
      obtain ⟨σ3, H3, I3, m', hm, w3⟩ := q3
      exact ⟨m', hm, σ3, H3, I3, w3⟩
    | cont =>
      obtain ⟨σ3, H3, I3, m', hm, w3⟩ := q3
      exact ⟨m', hm, σ3, H3, I3, w3⟩
    | brk => exact q3
    | ret v => exact q3
  | false =>
    rw [if_neg Bool.false_ne_true] at q2 ⊢
    exact wpAny_execs_nil ⟨σ1, H2, I2, q2⟩
theorem whl {c : TT} {tb : TS} {D : Ends} {σ : St} {H : Hp} (Pv : Nat → St → Hp → Prop) (m : Nat) (h0 : Pv m σ H)
    (hs : ∀ m σ H (N : St → Hp → Prop), Pv m σ H → (∀ m' σ' H', m' < m → Pv m' σ' H' → N σ' H') → c σ H fun b H1 => if b = true then tb { D with nx := N, ct := N, bk := D.nx } σ H1 else D.nx σ H1) : tWhl c tb D σ H :=
  ⟨Pv, ⟨m, h0⟩, fun m σ H p N hN => hs m σ H N p hN⟩
theorem filterMap_some {α β : Type} (f : α → β) (xs : List α) : xs.filterMap (fun x => some (f x)) = xs.map f := by
  induction xs with
  | nil => rfl
  | cons x r ih => rw [List.filterMap_cons, ih]; rfl
end L2
set_option Elab.async false
set_option linter.all false
set_option maxRecDepth 100000
namespace L2
open PySem
theorem p2le {e k : Nat} (h : e ≤ k) : 0 < (2 : Int) ^ e ∧ (2 : Int) ^ e ≤ 2 ^ k := by
  refine ⟨pow_pos2 e, ?_⟩
  obtain ⟨j, rfl⟩ : ∃ j, k = e + j := ⟨k - e, by omega⟩
  rw [Int.pow_add]
  have h1 := pow_pos2 e
  have h2 := pow_pos2 j
  have : (2 : Int) ^ e * 1 ≤ 2 ^ e * 2 ^ j := Int.mul_le_mul_of_nonneg_left (by omega) (by omega)
  omega
theorem shl1_b {e : Int} {k : Nat} (h1 : e ≤ k) : 0 < 1 * (2 : Int) ^ e.toNat ∧ 1 * (2 : Int) ^ e.toNat ≤ 2 ^ k := by
  have := p2le (e := e.toNat) (k := k) (by omega)
  omega
def spLSigns : Sp := fun vs H Q _ => ∃ n : Int, vs = [.int n] ∧ n.natAbs < 2 ^ 5000 ∧ ∀ r H', H r = none → Same H H' → H' r = some (.lst ((naf n).map V.int)) → Q (.ref r) H'
def spIsDig : Sp := fun vs H Q _ => ∃ (a : Addr) (ds : List Int), vs = [.ref a] ∧ H a = some (.lst (ds.map V.int)) ∧ ds.length ≤ 10000 ∧ (∀ d ∈ ds, d = -1 ∨ d = 0 ∨ d = 1) ∧ ∀ H', Same H H' → Q (.bl true) H'
theorem le_big {n : Nat} (h : n ≤ 100000) : n ≤ sizeLine := Nat.le_trans h (by decide)
theorem lt_big {n : Nat} (h : n < 100000) : n < sizeLine := Nat.lt_of_lt_of_le h (by decide)
theorem same_upd {H H' : Hp} {r : Addr} {o : HO} (h : H r = none) (s : Same H H') : Same H (upd H' r o) := fun b u q => by rw [upd_ne (ne_of_none q h)]; exact s b u q
theorem big_of {n : Int} {j k : Nat} (h : n.natAbs < 2 ^ j) (l : j ≤ k) : n.natAbs < 2 ^ k := Nat.lt_of_lt_of_le h (Nat.pow_le_pow_right (by decide) l)
def On2 (vs : List V) (P : Int → Int → Prop) : Prop := ∃ i j, vs = [.int i, .int j] ∧ P i j
theorem w_On2 {i j : Int} {P : Int → Int → Prop} : On2 [.int i, .int j] P = P i j := propext ⟨fun ⟨i', j', e, q⟩ => by cases e; exact q, fun q => ⟨i, j, rfl, q⟩⟩
section
variable {σ : St} {H : Hp} {D : Ends} {g : TG} {tb : TS} {K : PySem.W.Frag} {Q : VK} {nt : Nat} {cs : List Nat} {tt : TT} {te : TE}
theorem w_for2b {ta : TA} : tFor (iRng2 ta) g tb D σ H = (ta σ H fun vs H1 => On2 vs fun i j => (-(2 ^ 62) ≤ i ∧ i < 2 ^ 62 ∧ -(2 ^ 62) ≤ j ∧ j < 2 ^ 62) ∧ ForR i (j - i).toNat g tb D σ H1) := rfl
theorem w_comp2b {ta : TA} : tComp (iRng2 ta) nt cs g tt te σ H Q = (ta σ H fun vs H1 => On2 vs fun i j => (-(2 ^ 62) ≤ i ∧ i < 2 ^ 62 ∧ -(2 ^ 62) ≤ j ∧ j < 2 ^ 62) ∧ CompIt (Itr i (j - i).toNat) nt cs g tt te σ H1 Q) := rfl
end
end L2
set_option Elab.async false
set_option linter.all false
set_option maxRecDepth 100000
namespace L2
open PySem
def fltV : V → Option V := fun x => match x with
  | .int d => if d ≠ 0 then some (.int d) else none
  | _ => none
theorem fltV_ne {d : Int} (h : ¬d = 0) : fltV (.int d) = some (.int d) := by unfold fltV; exact if_pos h
theorem flt_len_map : ∀ (ds : List Int), (ds.map V.int).filterMap fltV = (ds.filter fun d => decide (d ≠ 0)).map V.int
  | [] => rfl
  | d :: r => by
    rw [List.map_cons, List.filterMap_cons, List.filter_cons]
    by_cases h : d = 0
    · subst h
      show ((r.map V.int).filterMap fltV) = _
      rw [flt_len_map r]
      rfl
    · rw [fltV_ne h, if_pos (by simpa using h), List.map_cons, flt_len_map r]
abbrev wn (n : Int) : Nat := wt (naf n)
theorem wt_cons (d : Int) (r : List Int) : wt (d :: r) = (if d = 0 then 0 else 1) + wt r := by
  unfold wt
  rw [List.filter_cons]
  by_cases h : d = 0
  · simp [h]
  · simp [h]; omega
theorem wn_zero : wn 0 = 0 := rfl
theorem wn_step (n : Int) : wn n = (if fs n = 0 then 0 else 1) + wn ((n - fs n) / 2) := by
  by_cases h : n = 0
  · subst h; rfl
  · show wt (naf n) = _
    rw [naf_step h, wt_cons]
theorem wn_dbl (n : Int) : wn (2 * n) = wn n := by
  rw [wn_step (2 * n)]
  have e : fs (2 * n) = 0 := by unfold fs; rw [if_pos (by omega)]
  rw [e, if_pos rfl, Nat.zero_add]
  congr 2
  omega
theorem wn_1 (j : Int) : wn (4 * j + 1) = 1 + wn j := by
  rw [wn_step]
  have e : fs (4 * j + 1) = 1 := by unfold fs; rw [if_neg (by omega)]; omega
  rw [e, if_neg (by decide), ← wn_dbl j]
  congr 2
  omega
theorem wn_3 (j : Int) : wn (4 * j - 1) = 1 + wn j := by
  rw [wn_step]
  have e : fs (4 * j - 1) = -1 := by unfold fs; rw [if_neg (by omega)]; omega
  rw [e, if_neg (by decide), ← wn_dbl j]
  congr 2
  omega
theorem wn_succ : ∀ n : Int, wn (n + 1) ≤ wn n + 1 ∧ wn n ≤ wn (n + 1) + 1 := by
  have all : ∀ k (n : Int), n.natAbs ≤ k → wn (n + 1) ≤ wn n + 1 ∧ wn n ≤ wn (n + 1) + 1 := by
    intro k
    induction k with
    | zero =>
      intro n h
      have : n = 0 := by omega
      subst this
      decide
    | succ k ih =>
      intro n h
      have cases4 : n = 4 * (n / 4) ∨ n = 4 * (n / 4) + 1 ∨ n = 4 * (n / 4) + 2 ∨ n = 4 * (n / 4) + 3 := by omega
      by_cases z : n = -1
      · subst z; decide
      by_cases z0 : n = 0
      · subst z0; decide
      have hj := ih (n / 4) (by omega)
      generalize n / 4 = j at *
      rcases cases4 with e | e | e | e <;> subst e
      · rw [show 4 * j = 2 * (2 * j) by omega, wn_dbl, wn_dbl, show 2 * (2 * j) + 1 = 4 * j + 1 by omega, wn_1]
        omega
      · rw [wn_1, show 4 * j + 1 + 1 = 2 * (2 * j + 1) by omega, wn_dbl]
        have h3 : wn (2 * j + 1) ≤ wn j + 2 := by
          by_cases e : j % 2 = 0
          · have e1 : 2 * j + 1 = 4 * (j / 2) + 1 := by omega
            have e2 : wn j = wn (j / 2) := by rw [← wn_dbl (j / 2)]; congr 2; omega
            rw [e1, wn_1, ← e2]; omega
          · have e1 : 2 * j + 1 = 4 * ((j + 1) / 2) - 1 := by omega
            have e2 : wn (j + 1) = wn ((j + 1) / 2) := by rw [← wn_dbl ((j + 1) / 2)]; congr 2; omega
            rw [e1, wn_3, ← e2]; omega
        have h4 : wn j ≤ wn (2 * j + 1) := by
          by_cases e : j % 2 = 0
          · have e1 : 2 * j + 1 = 4 * (j / 2) + 1 := by omega
            have e2 : wn j = wn (j / 2) := by rw [← wn_dbl (j / 2)]; congr 2; omega
            rw [e1, wn_1, ← e2]; omega
          · have e1 : 2 * j + 1 = 4 * ((j + 1) / 2) - 1 := by omega
            have e2 : wn (j + 1) = wn ((j + 1) / 2) := by rw [← wn_dbl ((j + 1) / 2)]; congr 2; omega
            rw [e1, wn_3, ← e2]; omega
        have h5 : wn (2 * j + 1) ≤ 1 + wn j + 1 := by omega
        exact ⟨h5, by omega⟩
      · rw [show 4 * j + 2 = 2 * (2 * j + 1) by omega, wn_dbl, show 2 * (2 * j + 1) + 1 = 4 * (j + 1) - 1 by omega, wn_3]
        have h4 : wn (2 * j + 1) ≤ wn (j + 1) + 2 ∧ wn (j + 1) ≤ wn (2 * j + 1) := by
          by_cases e : j % 2 = 0
          · have e1 : 2 * j + 1 = 4 * (j / 2) + 1 := by omega
            have e2 : wn j = wn (j / 2) := by rw [← wn_dbl (j / 2)]; congr 2; omega
            rw [e1, wn_1, ← e2]; omega
          · have e1 : 2 * j + 1 = 4 * ((j + 1) / 2) - 1 := by omega
            have e2 : wn (j + 1) = wn ((j + 1) / 2) := by rw [← wn_dbl ((j + 1) / 2)]; congr 2; omega
            rw [e1, wn_3, ← e2]; omega
        omega
      · rw [show 4 * j + 3 = 4 * (j + 1) - 1 by omega, wn_3, show 4 * (j + 1) - 1 + 1 = 2 * (2 * (j + 1)) by omega, wn_dbl, wn_dbl]
        omega
  exact fun n => all n.natAbs n (Nat.le_refl _)
theorem w_neB {a b : Bool} {H : Hp} {Q : VK} : rNe (.bl a) (.bl b) H Q = Q (.bl (!decide (a = b))) H :=
  propext (by
    have e : decide (V.bl a = V.bl b) = decide (a = b) := by by_cases h : a = b <;> simp [h]
    unfold rNe; rw [e]; exact ⟨fun h => h.2, fun h => ⟨rfl, h⟩⟩)
theorem w_eqB {a b : Bool} {H : Hp} {Q : VK} : rEq (.bl a) (.bl b) H Q = Q (.bl (decide (a = b))) H :=
  propext (by
    have e : decide (V.bl a = V.bl b) = decide (a = b) := by by_cases h : a = b <;> simp [h]
    unfold rEq; rw [e]; exact ⟨fun h => h.2, fun h => ⟨rfl, h⟩⟩)
end L2
set_option Elab.async false
set_option linter.all false
set_option maxRecDepth 100000
namespace L2
open PySem
abbrev SS := List (Int × Int) × List Int
def stp (m : Int) (s : SS) (o : Int) : SS := if (s.1.lookup o).isSome = false ∧ (if o < 0 then -o else o) < 200 then (s.1 ++ [(o, m)], s.2 ++ [o]) else s
def kin (m n : Int) (s : SS) (k : Nat) : SS := stp m (stp m s (n + 1 * 2 ^ k)) (n - 1 * 2 ^ k)
end L2
set_option Elab.async false
set_option linter.all false
set_option maxRecDepth 100000
set_option maxHeartbeats 1000000
namespace L2
open PySem PySem.Spec PyProof.Rows
section
variable {prog : Program} {w : World} {A : Around} {R : Result → Shared → Prop} {I S : Addr} {fp wr : List Addr} {n : Nat} {P : Nat → Value → Prop} {St : Nat → Heap → Prop} {bt : Nat → Nat → Bool} {d : Value}
end
section
variable {prog : Program} {w : World} {A : Around} {E : Value → Shared → Prop} {s : Shared} {d x : Value}
end
def mz : List Int → Int
  | [] => 0
  | x :: r => if mz r < x then x else mz r
section
variable {X : Cx} {e : Expr} {es : List Expr} {kws : List Keyword} {t tk : TA} {p pos : Pos}
def tMaxD (t tk : TA) : TE := fun σ H Q => t σ H fun vs H1 => tk σ H1 fun zs H2 => ∃ (p : Addr) (ns : List Int), vs = [.ref p] ∧ zs = [.int 0] ∧ H2 p = some (.lst (ns.map V.int)) ∧ (∀ n ∈ ns, 0 ≤ n) ∧ Q (.int (mz ns)) H2
end
section
variable {K : PySem.W.Frag} {σ : St} {H : Hp} {Q : VK}
theorem w_maxD {t tk : TA} : tMaxD t tk σ H Q = t σ H fun vs H1 => tk σ H1 fun zs H2 => ∃ (p : Addr) (ns : List Int), vs = [.ref p] ∧ zs = [.int 0] ∧ H2 p = some (.lst (ns.map V.int)) ∧ (∀ n ∈ ns, 0 ≤ n) ∧ Q (.int (mz ns)) H2 := rfl
theorem w_sl {r : V → Option Int → Option Int → Hp → VK → Prop} {te : TE} {tl th : TO} : tSl r te tl th σ H Q = te σ H fun x H1 => tl σ H1 fun l H2 => th σ H2 fun u H3 => r x l u H3 Q := rfl
theorem w_noPart {R : Option Int → Hp → Prop} : tNoPart σ H R = R none H := rfl
theorem w_part {t : TE} {R : Option Int → Hp → Prop} : tPart t σ H R = t σ H fun x H1 => ∃ i, x = .int i ∧ R (some i) H1 := rfl
theorem w_slL {a : Addr} {lo hi : Option Int} : rSlL K (.ref a) lo hi H Q = ∃ xs, SqL K H a xs ∧ ∀ p, H p = none → Q (.ref p) (upd H p (.lst (cutV xs lo hi))) :=
  propext ⟨fun ⟨a', xs, e, h, q⟩ => by cases e; exact ⟨xs, h, q⟩, fun ⟨xs, h, q⟩ => ⟨a, xs, rfl, h, q⟩⟩
theorem comp_new {J : It} {xs : List V} {cs : List Nat} {tt : TT} {te : TE} (f : V → Option V) (hz : xs.length ≤ sizeLine)
    (hJ : ∀ H', Same H H' → (∀ i, i < xs.length → J.go i H') ∧ (∀ i x H2, J.yld i H' x H2 → H2 = H' ∧ (i < xs.length → xs[i]? = some x)) ∧ J.stop xs.length H')
    (hb : ∀ x H' (R : Option V → Hp → Prop), x ∈ xs → Same H H' → (∀ H5, Same H' H5 → R (f x) H5) → tt (some x :: capV cs σ) H' fun b H4 => if b = true then te (some x :: capV cs σ) H4 fun y H5 => R (some y) H5 else R none H4)
    (hd : ∀ acc H', H acc = none → Same H H' → H' acc = some (.lst (xs.filterMap f)) → Q (.ref acc) H') : CompIt J 1 cs (gName 0) tt te σ H Q := by
  intro acc hn
  refine ⟨fun i m ys σ' H' => m = xs.length - i ∧ i ≤ xs.length ∧ (∃ o, σ' = o :: capV cs σ) ∧ ys = (xs.take i).filterMap f ∧ H' acc = some (.lst ys) ∧ Same H H', ⟨_, rfl, Nat.zero_le _, ⟨none, rfl⟩, by simp, upd_same, same_new hn _⟩, ?_⟩
  rintro i m ys σ' H' ⟨rfl, hi, ⟨o, rfl⟩, hys, ha, sm⟩
  refine ⟨ha, ?_⟩
  have hl : ys.length ≤ i := by
    rw [hys]
    exact Nat.le_trans (List.length_filterMap_le _ _) (by rw [List.length_take]; omega)
  by_cases hlt : i < xs.length
  · refine .inr ⟨(hJ _ sm).1 i hlt, by omega, fun zs σ2 H2 => (∃ o, σ2 = o :: capV cs σ) ∧ zs = (xs.take (i + 1)).filterMap f ∧ H2 acc = some (.lst zs) ∧ Same H H2, fun zs σ2 H2 ⟨q1, q2, q3, q4⟩ => ⟨xs.length - (i + 1), by omega, rfl, hlt, q1, q2, q3, q4⟩, fun x H2 y => ?_⟩
    obtain ⟨e, hx⟩ := (hJ _ sm).2.1 i x H2 y
    have hx := hx hlt
    subst e
    have tk : xs.take (i + 1) = xs.take i ++ [x] := by rw [List.take_add_one, hx]; rfl
    show tt (some x :: capV cs σ) _ _
    refine hb x _ (fun o H5 => match o with | some y => H5 acc = some (.lst ys) ∧ (∃ o, some x :: capV cs σ = o :: capV cs σ) ∧ ys ++ [y] = (xs.take (i + 1)).filterMap f ∧ upd H5 acc (.lst (ys ++ [y])) acc = some (.lst (ys ++ [y])) ∧ Same H (upd H5 acc (.lst (ys ++ [y]))) | none => (∃ o, some x :: capV cs σ = o :: capV cs σ) ∧ ys = (xs.take (i + 1)).filterMap f ∧ H5 acc = some (.lst ys) ∧ Same H H5) (List.mem_of_getElem? hx) sm fun H5 s5 => ?_
    cases hf : f x with
    | none =>
      refine ⟨⟨_, rfl⟩, ?_, s5 _ _ ha, sm.trans s5⟩
      rw [tk, List.filterMap_append, ← hys]
      simp [hf]
    | some y =>
      refine ⟨s5 _ _ ha, ⟨_, rfl⟩, ?_, upd_same, same_upd hn (sm.trans s5)⟩
      rw [tk, List.filterMap_append, ← hys]
      simp [hf]
  · have e : i = xs.length := by omega
    subst e
    rw [List.take_length] at hys
    subst hys
    exact .inl ⟨(hJ _ sm).2.2, hd acc H' hn sm ha⟩
theorem comp_newL {a : Addr} {xs : List V} {cs : List Nat} {tt : TT} {te : TE} (h : SqL K H a xs) (hz : xs.length ≤ sizeLine) (f : V → Option V)
    (hb : ∀ x H' (R : Option V → Hp → Prop), x ∈ xs → Same H H' → (∀ H5, Same H' H5 → R (f x) H5) → tt (some x :: capV cs σ) H' fun b H4 => if b = true then te (some x :: capV cs σ) H4 fun y H5 => R (some y) H5 else R none H4)
    (hd : ∀ acc H', H acc = none → Same H H' → H' acc = some (.lst (xs.filterMap f)) → Q (.ref acc) H') : CompIt (Itl K a) 1 cs (gName 0) tt te σ H Q :=
  comp_new f hz (fun H' s => by
    have h' := s.seq h
    exact ⟨fun i hi => ⟨xs, xs[i], h', by simp [hi]⟩, fun i x H2 y => ⟨y.1, fun _ => y.2 xs h'⟩, ⟨xs, h', Nat.le_refl _⟩⟩) hb hd
end
def halN (c : Int) : Nat := if c > 1 then Builtin.Int.intBits (c - 1) else 0
def ld (ns : List Int) : Int := mz (ns.map fun n => ((halN (wn n : Nat) : Nat) : Int))
end L2
set_option Elab.async false
set_option linter.all false
set_option maxRecDepth 100000
set_option maxHeartbeats 1000000
namespace L2
open PySem PySem.Spec PyProof.Rows
theorem key_rel {k : Key} {v : Value} (h : keyIs k v = true) : RelV (kV k) v := by
  rcases keyIs_shape h with ⟨i, t, rfl, rfl⟩ | ⟨x, t, rfl, rfl⟩
  · exact ⟨t, rfl⟩
  · exact ⟨t, rfl⟩
section
variable {σ : St} {H : Hp} {Q : VK} {D : Ends}
theorem w_aug {i : Nat} {te : TE} {ti : TIp} : tAug i te ti D σ H = ∃ x, σ[i]? = some (some x) ∧ te σ H fun y H1 => ti x y H1 fun z H2 => D.nx (σ.set i (some z)) H2 := rfl
theorem w_ipI {f : Int → Int → Int} {i j : Int} : ipI f (.int i) (.int j) H Q = Q (.int (f i j)) H := propext ⟨fun ⟨_, _, e1, e2, q⟩ => by cases e1; cases e2; exact q, fun q => ⟨i, j, rfl, rfl, q⟩⟩
theorem w_dnK : tDNewK σ H Q = ∀ p, H p = none → Q (.ref p) (upd H p (.dK [])) := rfl
end
structure Dd where
  g : Int
  a : Nat
  s : Nat
  b : Nat
  t : Nat
def dnum (ns : List Int) (d : Dd) : Int := ns.getD d.a 0 * 2 ^ d.s + d.g * (ns.getD d.b 0 * 2 ^ d.t)
def ev (ds : List Dd) : List Int := ds.foldl (fun ns d => ns ++ [dnum ns d]) [1]
section
variable {X : Cx}
end
section
variable {K : PySem.W.Frag} {H : Hp} {Q : VK}
theorem w_ixT {p : Addr} {i : Int} : rIxT K (.ref p) (.int i) H Q = ∃ xs, SqT K H p xs ∧ ∃ v, atI xs i = some v ∧ Q v H :=
  propext ⟨fun ⟨p', xs, i', v, e1, e2, h, a, q⟩ => by cases e1; cases e2; exact ⟨xs, h, v, a, q⟩, fun ⟨xs, h, v, a, q⟩ => ⟨p, xs, i, v, rfl, rfl, h, a, q⟩⟩
theorem w_eqS {x y : Str} : rEq (.str x) (.str y) H Q = Q (.bl (decide (x = y))) H :=
  propext (by
    have e : decide (V.str x = V.str y) = decide (x = y) := by by_cases h : x = y <;> simp [h]
    unfold rEq
    rw [e]
    exact ⟨fun h => h.2, fun h => ⟨rfl, h⟩⟩)
end
end L2
set_option Elab.async false
set_option linter.all false
set_option maxRecDepth 100000
set_option maxHeartbeats 1000000
namespace L2
open PySem PySem.Spec PyProof.Rows
def Itz (K : PySem.W.Frag) (a b : Addr) : It :=
  ⟨fun i H => ∃ xs ys, SqL K H a xs ∧ SqL K H b ys ∧ i < xs.length ∧ i < ys.length,
   fun i H x H' => ∃ T u v, x = .ref T ∧ H T = none ∧ H' = upd H T (.tup [u, v]) ∧ (∀ xs, SqL K H a xs → xs[i]? = some u) ∧ (∀ ys, SqL K H b ys → ys[i]? = some v),
   fun i H => ∃ xs ys, SqL K H a xs ∧ SqL K H b ys ∧ (xs.length ≤ i ∨ ys.length ≤ i)⟩
def iZip (K : PySem.W.Frag) (ta : TA) : TI := fun σ H R => ta σ H fun vs H1 => ∃ a b xs ys, vs = [.ref a, .ref b] ∧ SqL K H1 a xs ∧ SqL K H1 b ys ∧ R (Itz K a b) H1
end L2
set_option Elab.async false
set_option linter.all false
set_option maxRecDepth 100000
set_option maxHeartbeats 1000000
namespace L2
open PySem PySem.Spec PyProof.Rows
def Ite (K : PySem.W.Frag) (a : Addr) : It :=
  ⟨fun i H => ∃ xs, SqL K H a xs ∧ i < xs.length,
   fun i H x H' => ∃ T u, x = .ref T ∧ H T = none ∧ H' = upd H T (.tup [.int (i : Int), u]) ∧ (∀ xs, SqL K H a xs → xs[i]? = some u),
   fun i H => ∃ xs, SqL K H a xs ∧ xs.length ≤ i⟩
def iEnum (K : PySem.W.Frag) (ta : TA) : TI := fun σ H R => ta σ H fun vs H1 => ∃ a xs, vs = [.ref a] ∧ SqL K H1 a xs ∧ R (Ite K a) H1
section
variable {K : PySem.W.Frag} {σ : St} {H : Hp} {Q : VK}
theorem comp_any {J : It} {nt : Nat} {cs : List Nat} {g : TG} {tt : TT} {te : TE} (n : Nat) (Pv : Addr → Nat → List V → Hp → Prop) (hz : n ≤ sizeLine)
    (hgo : ∀ acc i ys H', i < n → Pv acc i ys H' → J.go i H') (hst : ∀ acc ys H', Pv acc n ys H' → J.stop n H')
    (h0 : ∀ acc, H acc = none → Pv acc 0 [] (upd H acc (.lst []))) (hacc : ∀ acc i ys H', Pv acc i ys H' → H' acc = some (.lst ys) ∧ ys.length ≤ i)
    (hs : ∀ acc i ys H' (ts : St) x H2 (N : List V → St → Hp → Prop), H acc = none → i < n → Pv acc i ys H' → J.yld i H' x H2 → ts.length = nt → (∀ zs (ts' : St) H3, ts'.length = nt → Pv acc (i + 1) zs H3 → N zs (ts' ++ capV cs σ) H3) →
      g x (ts ++ capV cs σ) H2 fun σ3 H3 => tt σ3 H3 fun b H4 => if b = true then te σ3 H4 fun y H5 => H5 acc = some (.lst ys) ∧ N (ys ++ [y]) σ3 (upd H5 acc (.lst (ys ++ [y]))) else N ys σ3 H4)
    (hd : ∀ acc ys H', H acc = none → Pv acc n ys H' → Q (.ref acc) H') : CompIt J nt cs g tt te σ H Q := by
  intro acc hn
  refine ⟨fun i m ys σ' H' => m = n - i ∧ i ≤ n ∧ (∃ ts : St, ts.length = nt ∧ σ' = ts ++ capV cs σ) ∧ Pv acc i ys H', ⟨_, rfl, Nat.zero_le _, ⟨List.replicate nt none, List.length_replicate, rfl⟩, h0 acc hn⟩, ?_⟩
  rintro i m ys σ' H' ⟨rfl, hi, ⟨ts, hts, rfl⟩, p⟩
  obtain ⟨ha, hl⟩ := hacc acc i ys H' p
  refine ⟨ha, ?_⟩
  by_cases hlt : i < n
  · refine .inr ⟨hgo acc i ys H' hlt p, by omega, fun zs σ2 H2 => (∃ ts : St, ts.length = nt ∧ σ2 = ts ++ capV cs σ) ∧ Pv acc (i + 1) zs H2, fun zs σ2 H2 ⟨q1, q2⟩ => ⟨n - (i + 1), by omega, rfl, hlt, q1, q2⟩, fun x H2 y => ?_⟩
    exact hs acc i ys H' ts x H2 (fun zs σ2 H2 => (∃ ts : St, ts.length = nt ∧ σ2 = ts ++ capV cs σ) ∧ Pv acc (i + 1) zs H2) hn hlt p y hts fun zs ts' H3 h1 h2 => ⟨⟨ts', h1, rfl⟩, h2⟩
  · have e : i = n := by omega
    subst e
    exact .inl ⟨hst acc ys H' p, hd acc ys H' hn p⟩
theorem w_compE {ta : TA} {nt : Nat} {cs : List Nat} {g : TG} {tt : TT} {te : TE} : tComp (iEnum K ta) nt cs g tt te σ H Q = (ta σ H fun vs H1 => ∃ a xs, vs = [.ref a] ∧ SqL K H1 a xs ∧ CompIt (Ite K a) nt cs g tt te σ H1 Q) := rfl
theorem w_compZ {ta : TA} {nt : Nat} {cs : List Nat} {g : TG} {tt : TT} {te : TE} : tComp (iZip K ta) nt cs g tt te σ H Q = (ta σ H fun vs H1 => ∃ a b xs ys, vs = [.ref a, .ref b] ∧ SqL K H1 a xs ∧ SqL K H1 b ys ∧ CompIt (Itz K a b) nt cs g tt te σ H1 Q) := rfl
end
def Itr3 (lo c : Int) (n : Nat) : It := ⟨fun i _ => i < n, fun i H x H' => H' = H ∧ x = .int (lo + i * c), fun i _ => n ≤ i⟩
def stepN (lo hi c : Int) : Nat := (Builtin.Range.rangeSize lo hi c).toNat
def iRng3 (ta : TA) : TI := fun σ H R => ta σ H fun vs H1 => ∃ i j c : Int, vs = [.int i, .int j, .int c] ∧ (0 ≤ i ∧ i < 2 ^ 31 ∧ -1 ≤ j ∧ j < 2 ^ 31 ∧ c = 2) ∧ R (Itr3 i c (stepN i j c)) H1
def ForR3 (lo c : Int) (n : Nat) (g : TG) (tb : TS) (D : Ends) (σ : St) (H : Hp) : Prop := ∃ W : Nat → Nat → St → Hp → Prop, (∃ m, W 0 m σ H) ∧ ∀ i m σ H, W i m σ H →
  ((Itr3 lo c n).stop i H ∧ D.nx σ H) ∨ ((Itr3 lo c n).go i H ∧ ∃ N : St → Hp → Prop, (∀ σ' H', N σ' H' → ∃ m', m' < m ∧ W (i + 1) m' σ' H') ∧ ∀ x H', (Itr3 lo c n).yld i H x H' → g x σ H' fun σ2 H2 => tb { D with nx := N, ct := N, bk := D.nx } σ2 H2)
section
variable {σ : St} {H : Hp} {D : Ends} {g : TG} {tb : TS} {lo c : Int} {n : Nat}
theorem w_for3 {ta : TA} : tFor (iRng3 ta) g tb D σ H = (ta σ H fun vs H1 => ∃ i j c : Int, vs = [.int i, .int j, .int c] ∧ (0 ≤ i ∧ i < 2 ^ 31 ∧ -1 ≤ j ∧ j < 2 ^ 31 ∧ c = 2) ∧ ForR3 i c (stepN i j c) g tb D σ H1) := rfl
end
end L2
set_option Elab.async false
set_option linter.all false
set_option maxRecDepth 100000
set_option maxHeartbeats 1000000
namespace L2
open PySem PySem.Spec
theorem get_snoc {α : Type} {xs : List α} {x y : α} {i : Nat} (h : (xs ++ [x])[i]? = some y) : (i < xs.length ∧ xs[i]? = some y) ∨ (i = xs.length ∧ y = x) := by
  by_cases hi : i < xs.length
  · rw [List.getElem?_append_left hi] at h
    exact .inl ⟨hi, h⟩
  · rw [List.getElem?_append_right (by omega)] at h
    have hz : i - xs.length = 0 := by
      cases hk : i - xs.length with
      | zero => rfl
      | succ m => rw [hk] at h; simp at h
    rw [hz] at h
    cases h
    exact .inr ⟨by omega, rfl⟩
end L2
set_option Elab.async false
set_option linter.all false
set_option maxRecDepth 100000
set_option maxHeartbeats 1000000
namespace L2
open PySem PySem.Spec PyProof.Rows
def gTupK (K : PySem.W.Frag) (n : Nat) (t : TGs) : TG := gTup K n t
section
variable {K : PySem.W.Frag} {σ : St} {H : Hp} {R : St → Hp → Prop}
theorem w_gTupK {n : Nat} {t : TGs} {a : Addr} : gTupK K n t (.ref a) σ H R = ∃ xs, SqT K H a xs ∧ xs.length = n ∧ t xs σ H R :=
  propext ⟨fun ⟨a', xs, e, h, l, q⟩ => by cases e; exact ⟨xs, h, l, q⟩, fun ⟨xs, h, l, q⟩ => ⟨a, xs, rfl, h, l, q⟩⟩
end
end L2
set_option Elab.async false
set_option linter.all false
set_option maxRecDepth 100000
set_option maxHeartbeats 1000000
namespace L2
open PySem PySem.Spec PyProof.Rows
section
variable {X : Cx} {pins : List (Addr × Obj)} {σ : St} {H : Hp} {s : Shared} {p : Addr} {xs : List V}
def gLst (n : Nat) (t : TGs) : TG := fun v σ H Q => ∃ a xs, v = .ref a ∧ H a = some (.lst xs) ∧ xs.length = n ∧ t xs σ H Q
end
section
variable {σ : St} {H : Hp} {R : St → Hp → Prop}
theorem w_gLst {n : Nat} {t : TGs} {a : Addr} : gLst n t (.ref a) σ H R = ∃ xs, H a = some (.lst xs) ∧ xs.length = n ∧ t xs σ H R :=
  propext ⟨fun ⟨a', xs, e, h, l, q⟩ => by cases e; exact ⟨xs, h, l, q⟩, fun ⟨xs, h, l, q⟩ => ⟨a, xs, rfl, h, l, q⟩⟩
end
def ForE (K : PySem.W.Frag) (a : Addr) (g : TG) (tb : TS) (D : Ends) (σ : St) (H : Hp) : Prop := ∃ W : Nat → Nat → St → Hp → Prop, (∃ m, W 0 m σ H) ∧ ∀ i m σ H, W i m σ H →
  ((Ite K a).stop i H ∧ D.nx σ H) ∨ ((Ite K a).go i H ∧ ∃ N : St → Hp → Prop, (∀ σ' H', N σ' H' → ∃ m', m' < m ∧ W (i + 1) m' σ' H') ∧ ∀ x H', (Ite K a).yld i H x H' → g x σ H' fun σ2 H2 => tb { D with nx := N, ct := N, bk := D.nx } σ2 H2)
section
variable {K : PySem.W.Frag} {σ : St} {H : Hp} {D : Ends} {g : TG} {tb : TS} {a : Addr}
theorem w_forE {ta : TA} : tFor (iEnum K ta) g tb D σ H = (ta σ H fun vs H1 => ∃ a xs, vs = [.ref a] ∧ SqL K H1 a xs ∧ ForE K a g tb D σ H1) := rfl
end
end L2
set_option Elab.async false
set_option linter.all false
set_option maxRecDepth 100000
set_option maxHeartbeats 1000000
namespace L2
open PySem PySem.Spec
end L2
set_option Elab.async false
set_option linter.all false
set_option maxRecDepth 100000
set_option maxHeartbeats 1000000
namespace L2
open PySem PySem.Spec
structure Wd where
  w : Str
  a : Nat
  s : Int
  b : Nat
  t : Int
structure Go where
  th : Nat
  sh : Int
  sg : Int
structure HTs {α : Type} (f : α → List V) (H : Hp) (vs : List V) (xs : List α) : Prop where
  len : vs.length = xs.length
  at_ : ∀ (k : Nat) (x : α), xs[k]? = some x → ∃ p : Addr, vs[k]? = some (.ref p) ∧ H p = some (.tup (f x))
section
variable {α : Type} {f : α → List V} {H H' : Hp} {vs us : List V} {xs : List α} {l : Addr}
theorem HTs.same (h : HTs f H vs xs) (s : Same H H') : HTs f H' vs xs := ⟨h.len, fun k d e => by
  obtain ⟨x, e1, e2⟩ := h.at_ k d e
  exact ⟨x, e1, s _ _ e2⟩⟩
theorem HTs.chgL (h : HTs f H vs xs) (hl : H l = some (.lst us)) (c : Chg l H H') : HTs f H' vs xs := ⟨h.len, fun k d e => by
  obtain ⟨x, e1, e2⟩ := h.at_ k d e
  exact ⟨x, e1, c _ _ (ne_of e2 hl (by intro z; cases z)) e2⟩⟩
theorem HTs.snoc {x : α} {p : Addr} (h : HTs f H vs xs) (hx : H p = some (.tup (f x))) : HTs f H (vs ++ [.ref p]) (xs ++ [x]) := by
  refine ⟨by simp [h.len], fun k e he => ?_⟩
  rcases get_snoc he with ⟨hk, z⟩ | ⟨hk, rfl⟩
  · obtain ⟨y, e1, e2⟩ := h.at_ k e z
    exact ⟨y, by rw [List.getElem?_append_left (by rw [h.len]; exact hk)]; exact e1, e2⟩
  · refine ⟨p, ?_, hx⟩
    rw [List.getElem?_append_right (by rw [h.len]; omega), h.len, hk, Nat.sub_self]
    rfl
theorem hts_nil : HTs f H [] [] := ⟨rfl, fun k d h => by simp at h⟩
end
structure HRs (H : Hp) (ex : List Addr) (vs : List V) (rs : List (List Int)) : Prop where
  len : vs.length = rs.length
  at_ : ∀ (k : Nat) (r : List Int), rs[k]? = some r → ∃ p : Addr, vs[k]? = some (.ref p) ∧ H p = some (.lst (r.map V.int)) ∧ ∀ e ∈ ex, p ≠ e
section
variable {H H' : Hp} {ex : List Addr} {vs : List V} {rs : List (List Int)} {l : Addr}
theorem HRs.same (h : HRs H ex vs rs) (s : Same H H') : HRs H' ex vs rs := ⟨h.len, fun k d e => by
  obtain ⟨x, e1, e2, e3⟩ := h.at_ k d e
  exact ⟨x, e1, s _ _ e2, e3⟩⟩
theorem HRs.chg (h : HRs H ex vs rs) (hl : l ∈ ex) (c : Chg l H H') : HRs H' ex vs rs := ⟨h.len, fun k d e => by
  obtain ⟨x, e1, e2, e3⟩ := h.at_ k d e
  exact ⟨x, e1, c _ _ (e3 l hl) e2, e3⟩⟩
theorem HRs.snoc {r : List Int} {p : Addr} (h : HRs H ex vs rs) (hx : H p = some (.lst (r.map V.int))) (he : ∀ e ∈ ex, p ≠ e) : HRs H ex (vs ++ [.ref p]) (rs ++ [r]) := by
  refine ⟨by simp [h.len], fun k e he2 => ?_⟩
  rcases get_snoc he2 with ⟨hk, z⟩ | ⟨hk, rfl⟩
  · obtain ⟨y, e1, e2⟩ := h.at_ k e z
    exact ⟨y, by rw [List.getElem?_append_left (by rw [h.len]; exact hk)]; exact e1, e2⟩
  · refine ⟨p, ?_, hx, he⟩
    rw [List.getElem?_append_right (by rw [h.len]; omega), h.len, hk, Nat.sub_self]
    rfl
end
end L2
set_option Elab.async false
set_option linter.all false
set_option maxRecDepth 100000
set_option maxHeartbeats 1000000
namespace L2
open PySem PySem.Spec PyProof.Rows
theorem cf_mem : ∀ (names : List (Str × NameKind)) (n : Nat) (acc : List (Str × Addr)) (p : Str × Addr), p ∈ cellsFrom n names acc → p ∈ acc ∨ ((p.1, NameKind.cell) ∈ names ∧ n ≤ p.2)
  | [], _, _, _, h => .inl h
  | (y, k) :: r, n, acc, p, h => by
    unfold cellsFrom at h
    by_cases hk : (k == .cell) = true
    · rw [if_pos hk] at h
      have ek : k = .cell := by simpa using hk
      subst ek
      rcases cf_mem r (n + 1) _ p h with z | ⟨z, l⟩
      · rcases List.mem_cons.mp z with e | e
        · subst e
          exact .inr ⟨List.mem_cons_self, Nat.le_refl _⟩
        · exact .inl e
      · exact .inr ⟨List.mem_cons_of_mem _ z, Nat.le_of_succ_le l⟩
    · rw [if_neg hk] at h
      rcases cf_mem r n acc p h with z | ⟨z, l⟩
      · exact .inl z
      · exact .inr ⟨List.mem_cons_of_mem _ z, l⟩
theorem cf_inj : ∀ (names : List (Str × NameKind)) (n lo : Nat) (acc : List (Str × Addr)), lo ≤ n → (∀ p ∈ acc, (p.2 : Nat) < n) → (∀ (x y : Str) (c : Addr), (x, c) ∈ acc → (y, c) ∈ acc → lo ≤ c → x = y) →
    ∀ (x y : Str) (c : Addr), (x, c) ∈ cellsFrom n names acc → (y, c) ∈ cellsFrom n names acc → lo ≤ c → x = y
  | [], _, _, _, _, _, hi, x, y, c, h1, h2, l => hi x y c h1 h2 l
  | (z, k) :: r, n, lo, acc, hl, hn, hi, x, y, c, h1, h2, l => by
    unfold cellsFrom at h1 h2
    by_cases hk : (k == .cell) = true
    · rw [if_pos hk] at h1 h2
      refine cf_inj r (n + 1) lo _ (Nat.le_succ_of_le hl) (fun p hp => ?_) (fun x y c a b l => ?_) x y c h1 h2 l
      · rcases List.mem_cons.mp hp with e | e
        · subst e; exact Nat.lt_succ_self _
        · exact Nat.lt_succ_of_lt (hn p e)
      · rcases List.mem_cons.mp a with e | e <;> rcases List.mem_cons.mp b with e' | e'
        · rw [(Prod.mk.inj e).1, (Prod.mk.inj e').1]
        · have := hn _ e'
          rw [(Prod.mk.inj e).2] at this
          exact absurd this (Nat.lt_irrefl _)
        · have := hn _ e
          rw [(Prod.mk.inj e').2] at this
          exact absurd this (Nat.lt_irrefl _)
        · exact hi x y c e e' l
    · rw [if_neg hk] at h1 h2
      exact cf_inj r n lo acc hl hn hi x y c h1 h2 l
theorem cf_keep {x : Str} {c : Addr} : ∀ (names : List (Str × NameKind)) (n : Nat) (acc : List (Str × Addr)), acc.lookup x = some c → (x, NameKind.cell) ∉ names → (cellsFrom n names acc).lookup x = some c
  | [], _, _, h, _ => h
  | (y, k) :: r, n, acc, h, hm => by
    unfold cellsFrom
    have hr : (x, NameKind.cell) ∉ r := fun z => hm (List.mem_cons_of_mem _ z)
    by_cases hk : (k == .cell) = true
    · rw [if_pos hk]
      have ek : k = .cell := by simpa using hk
      subst ek
      refine cf_keep r (n + 1) _ ?_ hr
      rw [List.lookup_cons]
      have hne : (x == y) = false := by
        cases e : x == y with
        | false => rfl
        | true => rw [beq_iff_eq.mp e] at hm; exact absurd List.mem_cons_self hm
      rw [hne]
      exact h
    · rw [if_neg hk]
      exact cf_keep r n acc h hr
theorem cf_new : ∀ (names : List (Str × NameKind)) (h : Heap) (acc : List (Str × Addr)) (p : Str × Addr), p ∈ cellsFrom h.objs.size names acc → p ∈ acc ∨ (pushCells h names).IsCell p.2 none
  | [], _, _, _, h => .inl h
  | (y, k) :: r, h, acc, p, hp => by
    unfold cellsFrom at hp
    unfold pushCells
    by_cases hk : (k == .cell) = true
    · rw [if_pos hk] at hp ⊢
      have := cf_new r (h.push { cls := .type "cell", data := .cell none }) ((y, h.objs.size) :: acc) p (by rw [Heap.size_push]; exact hp)
      rcases this with z | z
      · rcases List.mem_cons.mp z with e | e
        · subst e
          exact .inr ⟨_, pushCells_keeps r _ _ _ (Heap.get?_push_size _ rfl), rfl⟩
        · exact .inl e
      · exact .inr z
    · rw [if_neg hk] at hp ⊢
      exact cf_new r h acc p hp
theorem mem_clos2 {scope : Scope} {env : Env} {x : Str} {c : Addr} (m : (x, c) ∈ closOf scope env) : env.cells.lookup x = some c ∧ (x, NameKind.free) ∈ scope.names := by
  unfold closOf at m
  rw [List.mem_reverse, List.mem_filterMap] at m
  obtain ⟨⟨n, k⟩, hy, e⟩ := m
  split at e
  · rename_i hk
    have hk : k = .free := by simpa using hk
    subst hk
    cases q : env.cells.lookup n with
    | none => rw [q] at e; cases e
    | some d =>
      rw [q] at e
      simp only [Option.map_some, Option.some.injEq, Prod.mk.injEq] at e
      rw [← e.1, q, e.2]
      exact ⟨rfl, hy⟩
  · cases e
def compEnvK (scope : Scope) (cl : List (Str × Addr)) (C : Addr) (env : Env) : Env :=
  { scope := relabel scope env, locals := C, globals := env.globals, cells := cellsFrom (C + 1) scope.names cl, qual := env.qual, func := none, code := env.code, frame := env.frame, builtins := env.builtins }
def nfeH (h : Heap) (names : List (Str × NameKind)) : Heap := pushCells (h.push { cls := .type "dict", data := .dict #[] }) names
theorem nfe_cells {M : Model} {A : Around} {E : Value → Shared → Prop} {s : Shared} {scope : Scope} {globals : Addr} {cl : List (Str × Addr)} {qual : Str} {env : Env} {Q : Env → Shared → Prop}
    (hQ : Q { scope := scope, locals := s.heap.objs.size, globals := globals, cells := cellsFrom (s.heap.objs.size + 1) scope.names cl, qual := qual, func := none, code := env.code, frame := env.frame, builtins := env.builtins } { s with heap := nfeH s.heap scope.names }) :
    wpAny M A (newFunctionEnv scope globals cl [] qual none .none (some env)) Q E s := by
  simp only [newFunctionEnv, Option.isSome_some, if_true]
  refine wpAny_bind (wpAny_alloc ?_)
  refine wpAny_bind (wpAny_layCells _ (fun name kind cells => by cases hkc : kind == NameKind.cell <;> simp [hkc]) _ _ _ _ ?_)
  rw [show ({ s with heap := s.heap.push { cls := .type "dict", data := .dict #[] } } : Shared).heap.objs.size = s.heap.objs.size + 1 from Heap.size_push ..]
  rw [List.forIn_nil]
  exact wpAny_bind (wpAny_pure (wpAny_pure hQ))
def compCxC (X : Cx) (N : List Str) (scope : Scope) (C : Addr) (s : Shared) (H : Hp) (fp : List Addr) : Cx :=
  { X with N := N, s₀ := s, H₀ := H, env := compEnvK scope (closOf scope X.env) C X.env, outer := X.stack, stack := X.stack, ex := fp, fn := fun x => scope.names.lookup x == some .cell, pn := [], xe := fun _ _ => False }
def scC (sc xsc : Scope) : Bool := (sc.kind == .function) && sc.names.all fun x => (x.2 != .cell || sc.names.lookup x.1 == some .cell) && (x.2 != .local || sc.names.lookup x.1 == some .local) && (x.2 != .free || ((sc.names.lookup x.1 == some .free) && ((xsc.names.lookup x.1 == some .cell) || (xsc.names.lookup x.1 == some .free))))
section
variable {X : Cx}
theorem compCxC_inv {pins : List (Addr × Obj)} {σ : St} {H : Hp} {s : Shared} {N : List Str} {scope : Scope} {nt : Nat} {cs : List Nat} {fp : List Addr} {tk : Nat} (I : Inv X pins σ H s)
    (hsc : scC scope X.env.scope = true) (hcap : capB cs (N.drop nt) X.N scope X.env.scope = true) (hlen : N.length = nt + cs.length)
    (hf : ∀ b ∈ fp, FpOk X pins H b) (hfl : ∀ b ∈ fp, b < s.heap.objs.size) :
    Inv (compCxC X N scope s.heap.objs.size s H fp) [] (capSt nt cs σ) H { s with heap := nfeH s.heap scope.names, toks := tk } := by
  have hk : ∀ b o, s.heap.get? b = some o → (nfeH s.heap scope.names).get? b = some o := fun b o e => pushCells_keeps _ _ b o (Heap.get?_push_of_some _ e)
  have hn : (nfeH s.heap scope.names).Ns s.heap.objs.size fun _ => none := (Heap.Ns.new s.heap (.type "dict")).keeps (pushCells_keeps _ _)
  unfold scC at hsc
  rw [Bool.and_eq_true] at hsc
  obtain ⟨hkd, hall⟩ := hsc
  have hkd : scope.kind = .function := by simpa using hkd
  rw [List.all_eq_true] at hall
  have cellL : ∀ x, (x, NameKind.cell) ∈ scope.names → scope.names.lookup x = some .cell := fun x hx => by
    have := hall _ hx
    simp only [bne_self_eq_false, Bool.false_or, Bool.and_eq_true, beq_iff_eq] at this
    exact this.1.1
  have freeL : ∀ x, (x, NameKind.free) ∈ scope.names → scope.names.lookup x = some .free := fun x hx => by
    have := hall _ hx
    simp only [bne_self_eq_false, Bool.false_or, Bool.and_eq_true, beq_iff_eq] at this
    exact this.2.1
  have free2 : ∀ x, (x, NameKind.free) ∈ scope.names → X.env.kindOf x = some .cell ∨ X.env.kindOf x = some .free := fun x hx => by
    have := hall _ hx
    simp only [bne_self_eq_false, Bool.false_or, Bool.and_eq_true, Bool.or_eq_true, beq_iff_eq] at this
    exact this.2.2
  have kinds : ∀ x, ((compCxC X N scope s.heap.objs.size s H fp).env.kindOf x = some .cell ∨ (compCxC X N scope s.heap.objs.size s H fp).env.kindOf x = some .free) → scope.names.lookup x = some .cell ∨ (x, NameKind.free) ∈ scope.names := fun x hx => by
    have q : ∃ k, (relabel scope X.env).names.lookup x = some k ∧ (k = .cell ∨ k = .free) := by
      rcases hx with e | e
      · exact ⟨_, e, .inl rfl⟩
      · exact ⟨_, e, .inr rfl⟩
    obtain ⟨k, e, hk'⟩ := q
    obtain ⟨k0, e0, r⟩ := relabel_lookup e
    have m := PySem.mem_of_lookup e0
    rcases r with r | ⟨r, _⟩
    · subst r
      rcases hk' with z | z
      · rw [z] at e0; exact .inl e0
      · rw [z] at m; exact .inr m
    · rw [r] at m; exact .inr m
  have clt : ∀ x c, X.env.cells.lookup x = some c → c < s.heap.objs.size := fun x c e => by
    obtain ⟨v, q⟩ := I.cell x c e
    exact q.lt
  -- a cell of the block: one of the caller's, or one of its own
  have two : ∀ x c, (compCxC X N scope s.heap.objs.size s H fp).env.cells.lookup x = some c → (X.env.cells.lookup x = some c ∧ (x, NameKind.free) ∈ scope.names) ∨ ((x, NameKind.cell) ∈ scope.names ∧ s.heap.objs.size + 1 ≤ c ∧ (nfeH s.heap scope.names).IsCell c none) := fun x c e => by
    have m := PySem.mem_of_lookup e
    rcases cf_mem _ _ _ _ m with z | ⟨z, l⟩
    · exact .inl (mem_clos2 z)
    · refine .inr ⟨z, l, ?_⟩
      have m' : (x, c) ∈ cellsFrom (s.heap.push { cls := .type "dict", data := .dict #[] }).objs.size scope.names (closOf scope X.env) := by rw [Heap.size_push]; exact m
      rcases cf_new _ _ _ _ m' with q | q
      · have := clt x c (mem_clos2 q).1
        exact absurd (Nat.lt_of_lt_of_le this (Nat.le_of_succ_le l)) (Nat.lt_irrefl _)
      · exact q
  refine ⟨⟨I.ok.mod, ?_, I.ok.glob, I.ok.blt, Nat.le_refl _, ?_, ?_, ?_, I.ok.hd, I.ok.frames, .inl rfl, ?_, ?_, ?_, ?_, ?_, ?_, ?_⟩, rfl, I.bare, Un.kept hk, ⟨_, hn, ?_⟩, ?_, ?_, ?_, ?_, I.hok.kept hk, ?_⟩
  · show (relabel scope X.env).kind = _
    exact hkd
  · intro x y c e1 e2
    rcases two x c e1 with ⟨a, _⟩ | ⟨_, a, _⟩ <;> rcases two y c e2 with ⟨b, _⟩ | ⟨_, b, _⟩
    · exact I.ok.inj x y c a b
    · exact absurd (Nat.lt_of_lt_of_le (clt x c a) (Nat.le_of_succ_le b)) (Nat.lt_irrefl _)
    · exact absurd (Nat.lt_of_lt_of_le (clt y c b) (Nat.le_of_succ_le a)) (Nat.lt_irrefl _)
    · refine cf_inj scope.names (s.heap.objs.size + 1) (s.heap.objs.size + 1) (closOf scope X.env) (Nat.le_refl _) (fun p hp => Nat.lt_succ_of_lt (clt p.1 p.2 (mem_clos2 hp).1)) (fun x y c h1 h2 l => ?_) x y c (PySem.mem_of_lookup e1) (PySem.mem_of_lookup e2) a
      exact absurd (Nat.lt_of_lt_of_le (clt x c (mem_clos2 h1).1) (Nat.le_of_succ_le l)) (Nat.lt_irrefl _)
  · intro x hx
    rcases kinds x hx with m | m
    · exact Option.isSome_iff_exists.mp (PySem.W.cellsFrom_some scope.names (s.heap.objs.size + 1) (closOf scope X.env) (.inl m))
    · obtain ⟨c, hc⟩ := I.ok.has x (free2 x m)
      exact Option.isSome_iff_exists.mp (PySem.W.cellsFrom_some scope.names (s.heap.objs.size + 1) (closOf scope X.env) (.inr (by rw [clos_has m hc]; rfl)))
  · intro x c z e
    have z : scope.names.lookup x = some .cell := by simpa [compCxC] using z
    rcases two x c e with ⟨_, m⟩ | ⟨_, l, _⟩
    · have := freeL x m
      rw [z] at this
      cases this
    · exact Nat.le_of_succ_le l
  · intro b hb
    obtain ⟨f0, f1, f2, f3, f4, f5⟩ := hf b hb
    refine ⟨Nat.ne_of_lt (hfl b hb), fun x c e => ?_⟩
    rcases two x c e with ⟨a, _⟩ | ⟨_, l, _⟩
    · exact f4 x c a
    · exact fun z => absurd (Nat.lt_of_lt_of_le (hfl b hb) (Nat.le_of_succ_le (z ▸ l))) (Nat.lt_irrefl _)
  · intro b o e
    exact I.bs b o e
  · exact Nat.le_trans I.ok.bsz I.sz
  · intro b o e hb
    obtain ⟨f0, f1, f2, f3, f4, f5⟩ := hf b hb
    rcases f3 with z | z
    · exact I.ok.noex b o e z
    · exact absurd (Nat.lt_of_lt_of_le (Heap.lt_size (I.ok.bs b o e).1) z) (Nat.lt_irrefl _)
  · intro b hb hs
    obtain ⟨f0, f1, f2, f3, f4, f5⟩ := hf b hb
    rcases List.mem_cons.mp (I.stkSub b hs) with z | z
    · exact f1 z
    · exact f2 z
  · exact I.stack
  · exact I.stkFree
  · intro i x v e1 e2 _
    have hi : nt ≤ i := by
      refine Nat.le_of_not_lt fun z => ?_
      unfold capSt at e2
      rw [List.getElem?_append_left (by simpa using z), List.getElem?_replicate, if_pos z] at e2
      cases e2
    unfold capSt at e2
    rw [List.getElem?_append_right (by simpa using hi), List.length_replicate, List.getElem?_map] at e2
    cases q : cs[i - nt]? with
    | none => rw [q] at e2; cases e2
    | some c =>
      rw [q] at e2
      simp only [Option.map_some, Option.some.injEq] at e2
      have e3 : σ[c]? = some (some v) := by
        cases z : σ[c]? with
        | none => rw [z] at e2; cases e2
        | some o => rw [z] at e2; exact congrArg some e2
      unfold capB at hcap
      rw [List.all_eq_true] at hcap
      have e4 : (N.drop nt)[i - nt]? = some x := by
        rw [List.getElem?_drop, show nt + (i - nt) = i by omega]
        exact e1
      have m : (c, x) ∈ cs.zip (N.drop nt) := by
        have : (cs.zip (N.drop nt))[i - nt]? = some (c, x) := by rw [List.getElem?_zip_eq_some]; exact ⟨q, e4⟩
        exact List.mem_of_getElem? this
      have hm := hcap _ m
      simp only [Bool.and_eq_true, beq_iff_eq, bne_iff_ne, ne_eq] at hm
      obtain ⟨⟨h1', h2'⟩, h3'⟩ := hm
      have hlk : scope.names.lookup x = some .free := h2'
      have h2' : (x, NameKind.free) ∈ scope.names := PySem.mem_of_lookup hlk
      have nocell : (x, NameKind.cell) ∉ scope.names := fun z => by
        have := cellL x z
        rw [hlk] at this
        cases this
      obtain ⟨mm, hmm, hl⟩ := I.loc
      have vis : Vis X.env.scope x := .inr (free2 x h2')
      obtain ⟨u, r, l⟩ := hl c x v h1' e3 vis
      rcases l with ⟨z, _⟩ | ⟨z, d, hd, hcell⟩
      · exact absurd z h3'
      · refine ⟨u, r, .inr ⟨?_, d, cf_keep _ _ _ (clos_has h2' hd) nocell, ?_⟩⟩
        · have isf : ∃ k, (relabel scope X.env).names.lookup x = some k := by
            have : ∃ k', (x, k') ∈ (relabel scope X.env).names := by
              unfold relabel
              by_cases cc : (X.env.scope.kind == .function && X.env.kindOf x == some .cell) = true
              · refine ⟨.cell, List.mem_map.mpr ⟨(x, .free), h2', ?_⟩⟩
                simp only [Bool.and_eq_true] at cc
                simp [cc.1, cc.2]
              · refine ⟨.free, List.mem_map.mpr ⟨(x, .free), h2', ?_⟩⟩
                simp only [Bool.and_eq_true] at cc
                have cc' : ¬ ((NameKind.free == NameKind.free && X.env.scope.kind == .function && X.env.kindOf x == some .cell) = true) := by
                  simp only [beq_self_eq_true, Bool.true_and, Bool.and_eq_true]
                  exact cc
                show (if (NameKind.free == NameKind.free && X.env.scope.kind == .function && X.env.kindOf x == some .cell) = true then (x, NameKind.cell) else (x, NameKind.free)) = (x, NameKind.free)
                rw [if_neg cc']
            obtain ⟨k', hk'⟩ := this
            exact lookup_mem hk'
          obtain ⟨k, ek⟩ := isf
          obtain ⟨k0, e0, rr⟩ := relabel_lookup ek
          rcases rr with rr | ⟨_, rr⟩
          · subst rr
            rw [hlk] at e0
            cases e0
            exact .inr ek
          · subst rr
            exact .inl ek
        · obtain ⟨o, ho, hd'⟩ := hcell
          exact ⟨o, hk _ _ ho, hd'⟩
  · intro x c e
    rcases two x c e with ⟨a, _⟩ | ⟨_, _, a⟩
    · obtain ⟨v, o, ho, hd⟩ := I.cell x c a
      exact ⟨v, o, hk _ _ ho, hd⟩
    · exact ⟨none, a⟩
  · exact I.hok.fresh (Nat.le_refl _)
  · intro x c e
    rcases two x c e with ⟨a, _⟩ | ⟨_, l, _⟩
    · exact I.freeC x c a
    · exact I.hok.fresh (Nat.le_of_succ_le l)
  · intro p hp
    cases hp
  · show (capSt nt cs σ).length = N.length
    unfold capSt
    rw [List.length_append, List.length_replicate, List.length_map, hlen]
theorem compC_core {use : Option (Value → Sem Unit)} {QQ : Value → Shared → Prop} {ipos : Pos} {tg iter elt : Expr} {ifs : List Expr} {scope : Scope} {pos : Pos} {wi : TI} {N : List Str} {nt : Nat} {cs : List Nat} {g : TG} {tt : TT} {te : TE} (hc : X.calm = true) (hi : PI X tg iter wi)
    (hb : N.Nodup → ∀ (C : Addr) (s : Shared) (H : Hp) (fp : List Addr), CompBody (compCxC X N scope C s H fp) tg ifs elt g tt te)
    (hnd : N.Nodup) (hsc : scC scope X.env.scope = true) (hcap : capB cs (N.drop nt) X.N scope X.env.scope = true) (hlen : N.length = nt + cs.length)
    (hs : ∀ x, foldedSetIterable iter X.env x = pure x) {pins : List (Addr × Obj)} {s : Shared} {σ : St} {H : Hp} {Q : V → Hp → Prop} (I : Inv X pins σ H s) (h : tComp wi nt cs g tt te σ H Q)
    (hfin : ∀ {acc : Addr} {fp : List Addr} {HX : Hp} {sx : Shared} {σ' : St} {H' : Hp} {s' : Shared}, Inv X pins σ HX sx → (∀ b ∈ fp, FpOk X pins HX b) → Inv (compCxC X N scope sx.heap.objs.size sx HX fp) [] σ' H' s' → Q (.ref acc) H' → compPost (model X.prog X.w) X.A X.xe use QQ (.ref acc) sx.heap.objs.size (.ok .next) s') :
    wpAny (model X.prog X.w) X.A (comprehension (.ListComp elt [⟨tg, iter, ifs, 0⟩] scope pos) scope X.env ipos (newList []) false (eval iter X.env) use) QQ X.xe s := by
  have hsc' := hsc
  unfold scC at hsc'
  rw [Bool.and_eq_true] at hsc'
  obtain ⟨hkd, hall⟩ := hsc'
  have hkd : scope.kind = .function := by simpa using hkd
  rw [List.all_eq_true] at hall
  have hnames : ∀ x ∈ scope.names, x.2 = .local → scope.names.lookup x.1 = some .local := fun x hx e => by
    have := hall x hx
    rw [e] at this
    simp only [bne_self_eq_false, Bool.false_or, Bool.and_eq_true, beq_iff_eq] at this
    exact this.1.2
  have hclos : closureFor scope X.env = pure (closOf scope X.env) := closureFor_ok fun x hx e => by
    have := hall x hx
    rw [e] at this
    simp only [bne_self_eq_false, Bool.false_or, Bool.and_eq_true, Bool.or_eq_true, beq_iff_eq] at this
    exact I.ok.has x.1 this.2.2
  refine wpAny_comprehension_free (use := use) rfl hs hclos hkd hnames (thn (hi pins s σ H _ I h) fun v s1 h1 => thn h1 fun itv s2 h2 => ?_)
  obtain ⟨it, fp, tn, J, H2, e, I2, T, st2, f2, hR⟩ := h2
  subst e
  refine wpAny_newObj_type (nfe_cells ?_)
  have fr := I2.fresh
  have I3 : Inv X pins σ (upd H2 s2.heap.objs.size (.lst [])) { s2 with heap := s2.heap.push { cls := .type "list", data := .seq ([] : List Value).toArray }, toks := s2.toks } := I2.lnew .nil (le_size (by decide))
  obtain ⟨W, ⟨m0, w0⟩, turn⟩ := hR _ fr
  generalize hacc : s2.heap.objs.size = acc at *
  generalize hsx : ({ s2 with heap := s2.heap.push { cls := .type "list", data := .seq ([] : List Value).toArray }, toks := s2.toks } : Shared) = sx at *
  have hC : sx.heap.objs.size = acc + 1 := by rw [← hsx, ← hacc]; exact Heap.size_push _ _
  have fpl : ∀ b ∈ fp, b < acc := fun b hb => by
    obtain ⟨o, ho, _⟩ := T.obj _ _ st2 b hb
    rw [← hacc]
    exact Heap.lt_size ho
  have f3 : ∀ b ∈ fp, FpOk X pins (upd H2 acc (.lst [])) b := fun b hb => by
    obtain ⟨f0, f1⟩ := f2 b hb
    exact ⟨by rw [upd_ne (Nat.ne_of_lt (fpl b hb))]; exact f0, f1⟩
  have keep3 : ∀ b o, sx.heap.get? b = some o → (nfeH sx.heap scope.names).get? b = some o := fun b o e => pushCells_keeps _ _ b o (Heap.get?_push_of_some _ e)
  have hn3 : (nfeH sx.heap scope.names).Ns sx.heap.objs.size fun _ => none := (Heap.Ns.new sx.heap (.type "dict")).keeps (pushCells_keeps _ _)
  have IC : Inv (compCxC X N scope sx.heap.objs.size sx (upd H2 acc (.lst [])) fp) [] (capSt nt cs σ) (upd H2 acc (.lst [])) { sx with heap := nfeH sx.heap scope.names, toks := sx.toks } :=
    compCxC_inv (tk := sx.toks) I3 hsc hcap hlen f3 (fun b hb => by rw [hC]; exact Nat.lt_succ_of_lt (fpl b hb))
  have hn3' : H2 acc = none := fr
  generalize hXC : compCxC X N scope sx.heap.objs.size sx (upd H2 acc (.lst [])) fp = XC at IC
  have ctxP : XC.prog = X.prog := by rw [← hXC]; rfl
  have ctxW : XC.w = X.w := by rw [← hXC]; rfl
  have ctxK : XC.K = X.K := by rw [← hXC]; rfl
  have ctxA : XC.A = X.A := by rw [← hXC]; rfl
  have ctxC : XC.calm = true := by rw [← hXC]; exact hc
  have ctxX : XC.xe = fun _ _ => False := by rw [← hXC]; rfl
  have ctxE : XC.env = compEnvK scope (closOf scope X.env) sx.heap.objs.size X.env := by rw [← hXC]; rfl
  have body : CompBody XC tg ifs elt g tt te := by rw [← hXC]; exact hb hnd _ _ _ _
  have st3 : tn 0 (nfeH sx.heap scope.names) := T.keep _ _ _ st2 fun b hb o e => keep3 b o (by rw [← hsx]; exact Heap.get?_push_of_some _ e)
  have stat : ∀ {H' : Hp}, (∀ b ∈ fp, H' b = none) → ∀ b ∈ fp, FpOk XC [] H' b := fun hn b hb => by
    obtain ⟨f0, f1, f2', f3', f4, f5⟩ := f3 b hb
    refine ⟨hn b hb, ?_, ?_, .inl (by rw [← hXC]; exact hb), fun x c e => ?_, fun p hp => ?_⟩
    · rw [ctxE]
      exact Nat.ne_of_lt (by rw [hC]; exact Nat.lt_succ_of_lt (fpl b hb))
    · rw [← hXC]
      intro z
      rcases List.mem_cons.mp (I3.stkSub b z) with z | z
      · exact f1 z
      · exact f2' z
    · rw [ctxE] at e
      rcases cf_mem _ _ _ _ (PySem.mem_of_lookup e) with z | ⟨_, z⟩
      · exact f4 x c (mem_clos2 z).1
      · have h9 := fpl b hb
        have z : sx.heap.objs.size + 1 ≤ c := z
        rw [hC] at z
        exact Nat.ne_of_gt (Nat.lt_of_lt_of_le h9 (Nat.le_of_succ_le (Nat.le_of_succ_le z)))
    · rw [← hXC] at hp
      cases hp
  have fin : ∀ {σ' : St} {H' : Hp} {s' : Shared}, Inv XC [] σ' H' s' → Q (.ref acc) H' → compPost (model X.prog X.w) X.A X.xe use QQ (.ref acc) sx.heap.objs.size (.ok .next) s' := fun {σ' H' s'} J' q => hfin I3 f3 (by rw [hXC]; exact J') q
  have loop : codeAny (model X.prog X.w) X.A (.compLoop (.ListComp elt [⟨tg, iter, ifs, 0⟩] scope pos) 0 (.ref it) (.ref acc) XC.env) (compPost (model X.prog X.w) X.A X.xe use QQ (.ref acc) sx.heap.objs.size)
      { sx with heap := nfeH sx.heap scope.names, toks := sx.toks } := by
    rw [← ctxP, ← ctxW, ← ctxA]
    refine codeAny_compLoop_gen (fun n s' => ∃ i ys σ' H', Inv XC [] σ' H' s' ∧ tn i s'.heap ∧ (∀ b ∈ fp, H' b = none) ∧ W i n ys σ' H') ?_ m0 ⟨0, [], _, _, IC, st3, fun b hb => (f3 b hb).1, w0⟩
    rintro n s3 ⟨i, ys, σ3, H3, I3', st3', fr3, w3⟩
    have T' := T
    rw [← ctxP, ← ctxW, ← ctxK] at T'
    obtain ⟨hacc3, alt⟩ := turn i n ys σ3 H3 w3
    rcases alt with ⟨stop, qn⟩ | ⟨go, hsz, NN, hNN, step⟩
    · refine thn (T'.done XC rfl rfl rfl ctxC i [] s3 σ3 H3 _ I3' (stat fr3) st3' stop) fun r s4 ⟨hr, I4⟩ => ?_
      subst hr
      rw [ctxP, ctxW, ctxA]
      exact fin I4 qn
    · refine thn (T'.item XC rfl rfl rfl ctxC i [] s3 σ3 H3 _ I3' (stat fr3) st3' go) fun r s4 ⟨u, hr, h4⟩ => ?_
      subst hr
      refine thn h4 fun _ s5 ⟨x, H5, I5, r5, y5, st5, fr5⟩ => ?_
      have I5' := I5.pinned (stat fr5) (T'.obj _ _ st5)
      have a1 := body.tg _ s5 σ3 H5 x u _ I5' r5 (step x H5 y5)
      rw [ctxX] at a1
      refine thn a1 fun _ s6 ⟨σ6, H6, I6, q6⟩ => ?_
      have a2 := body.tt _ s6 σ6 H6 _ I6 q6
      rw [ctxX] at a2
      refine thn a2 fun b s7 ⟨H7, I7, q7⟩ => ?_
      have again : ∀ {s8 : Shared} {σ7 : St} {H7 : Hp} {zs : List V}, Inv XC ([] ++ pinsAt fp s5.heap) σ7 H7 s8 → NN zs σ7 H7 → ∃ m, m < n ∧ ∃ i ys σ' H', Inv XC [] σ' H' s8 ∧ tn i s8.heap ∧ (∀ b ∈ fp, H' b = none) ∧ W i m ys σ' H' := fun {s8 σ7 H7 zs} I7 n7 => by
        obtain ⟨m', hm, w7⟩ := hNN zs σ7 H7 n7
        refine ⟨m', hm, i + 1, zs, σ7, H7, I7.unpinned, T'.keep _ _ _ st5 fun b hb o e => (I7.pin (b, o) (List.mem_append_right _ (List.mem_append_right _ (mem_pinsAt hb e)))).1, fun b hb => ?_, w7⟩
        obtain ⟨o, e, d⟩ := T'.obj _ _ st5 b hb
        exact (I7.pin (b, o) (List.mem_append_right _ (List.mem_append_right _ (mem_pinsAt hb e)))).2.1
      cases b with
      | false =>
        rw [if_neg Bool.false_ne_true] at q7 ⊢
        exact again I7 q7
      | true =>
        rw [if_pos rfl] at q7 ⊢
        have a3 := body.te _ s7 σ6 H7 _ I7 q7
        rw [ctxX] at a3
        refine thn a3 fun xv s8 ⟨y, H8, I8, r8, q8⟩ => ?_
        obtain ⟨hl8, n8⟩ := q8
        have a4 := mt_append (X := XC) _ s8 σ6 H8 (.ref acc) [y] (.ref acc) [xv] (fun _ H9 => NN (ys ++ [y]) σ6 H9) I8 rfl (.cons r8 .nil) ⟨acc, ys, y, rfl, rfl, hl8, hsz, n8⟩
        rw [ctxX] at a4
        refine thn a4 fun _ s9 ⟨_, H9, I9, _, q9⟩ => ?_
        exact again I9 q9
  rw [ctxE] at loop
  exact codeAny_compStart_list loop (T.self X.A 0 _ _ _ st3 loop)
theorem pe_compC {tg iter elt : Expr} {ifs : List Expr} {scope : Scope} {pos : Pos} {wi : TI} {N : List Str} {nt : Nat} {cs : List Nat} {g : TG} {tt : TT} {te : TE} (hc : X.calm = true) (hi : PI X tg iter wi)
    (hb : N.Nodup → ∀ (C : Addr) (s : Shared) (H : Hp) (fp : List Addr), CompBody (compCxC X N scope C s H fp) tg ifs elt g tt te)
    (hnd : N.Nodup) (hsc : scC scope X.env.scope = true) (hcap : capB cs (N.drop nt) X.N scope X.env.scope = true) (hlen : N.length = nt + cs.length)
    (hs : ∀ x, foldedSetIterable iter X.env x = pure x) : PE X (.ListComp elt [⟨tg, iter, ifs, 0⟩] scope pos) (tComp wi nt cs g tt te) := by
  intro pins s σ H Q I h
  rw [eval_ListComp]
  refine compC_core hc hi hb hnd hsc hcap hlen hs I h fun {acc fp HX sx σ' H' s'} I3 f3 J' q => ?_
  obtain ⟨m, hm, _⟩ := J'.loc
  refine ⟨m, hm, fun h' hs' => ⟨.ref acc, H', ?_, rfl, q⟩⟩
  refine I3.call' (s' := { s' with heap := h' }) J'.os (un_same J'.base hs' (Nat.le_refl _)) (hok_same J'.hok hs' J'.free) J'.bare fun b hb => ?_
  obtain ⟨f0, f1, f2', f3', f4, f5⟩ := f3 b hb
  exact ⟨f3', f1, f4, f5⟩
theorem ps_setCompC {y : Str} {py spos : Pos} {ix : Nat} {tg iter elt : Expr} {ifs : List Expr} {scope : Scope} {pos : Pos} {wi : TI} {N : List Str} {nt : Nat} {cs : List Nat} {g : TG} {tt : TT} {te : TE} (hc : X.calm = true) (hi : PI X tg iter wi)
    (hb : N.Nodup → ∀ (C : Addr) (s : Shared) (H : Hp) (fp : List Addr), CompBody (compCxC X N scope C s H fp) tg ifs elt g tt te)
    (hnd : N.Nodup) (hsc : scC scope X.env.scope = true) (hcap : capB cs (N.drop nt) X.N scope X.env.scope = true) (hlen : N.length = nt + cs.length)
    (hs : ∀ x, foldedSetIterable iter X.env x = pure x) (hN : X.N.Nodup) (hix : X.N[ix]? = some y) (hy : Loc X.env.scope y) (hf : X.fn y = true ∨ X.env.scope.names.lookup y = some .local)
    (hsw : swapsWith (.ListComp elt [⟨tg, iter, ifs, 0⟩] scope pos) (some (.Name y py)) spos.line X.env = pure true) : PS X (.Assign [.Name y py] (.ListComp elt [⟨tg, iter, ifs, 0⟩] scope pos) spos) (tAsg (tComp wi nt cs g tt te) (gName ix)) := by
  intro pins s σ H D I h
  rw [exec_Assign_Name_used _ _ _ _ hsw]
  refine wpAny_bind (wpAny_standAt (wpAny_bind ?_))
  show wpAny _ X.A (do let _ ← comprehension (.ListComp elt [⟨tg, iter, ifs, 0⟩] scope pos) scope X.env _ (newList []) false (eval iter X.env) (some (assign (.Name y py) X.env))) _ _ s
  refine wpAny_bind (wpAny_mono (compC_core (use := some (assign (.Name y py) X.env)) (QQ := fun _ s' => SP X pins D .next s') hc hi hb hnd hsc hcap hlen hs I h fun {acc fp HX sx σ' H' s'} I3 f3 J' q => ?_) (fun _ s' hq => wpAny_pure (wpAny_pure hq)) fun _ _ e => e)
  obtain ⟨m, hm, _⟩ := J'.loc
  have IX : Inv X pins σ H' s' := I3.call' J'.os J'.base J'.hok J'.bare fun b hb => by
    obtain ⟨f0, f1, f2', f3', f4, f5⟩ := f3 b hb
    exact ⟨f3', f1, f4, f5⟩
  have hCL : sx.heap.objs.size ≠ X.env.locals := Nat.ne_of_gt I3.lt
  have hCc : ∀ x c, X.env.cells.lookup x = some c → c ≠ sx.heap.objs.size := fun x c e => by
    obtain ⟨v, z⟩ := I3.cell x c e
    exact Nat.ne_of_lt z.lt
  have hCp : ∀ p ∈ X.pn ++ pins, p.1 ≠ sx.heap.objs.size := fun p hp => Nat.ne_of_lt (Heap.lt_size (I3.pin p hp).1)
  show wpAny _ X.A (assign (.Name y py) X.env (.ref acc)) _ _ s'
  refine wpAny_assign_Name (store_ok2 IX hN hix hy (v := .ref acc) rfl (fun s'' I'' ⟨a, hsb, ha⟩ => ?_) hf)
  have hCa : sx.heap.objs.size ≠ a := fun z => by
    rcases ha with e | e
    · exact hCL (z.trans e)
    · exact hCc _ _ e z.symm
  refine ⟨m, hm.sameBut hsb hCa, fun h' hs' => ⟨_, H', ?_, q⟩⟩
  exact I''.turned (t' := s''.toks) (fun b o hb e => (hs'.2 b hb).trans e) J'.free hCL (.inr I3.sz) hCc hCp
end
end L2
set_option Elab.async false
set_option linter.all false
set_option maxRecDepth 100000
set_option maxHeartbeats 1000000
namespace L2
open PySem PySem.Spec
section
variable {K : PySem.W.Frag} {σ : St} {H : Hp} {Q : VK} {cs : List Nat} {te : TE}
end
end L2
set_option Elab.async false
set_option linter.all false
set_option maxRecDepth 100000
set_option maxHeartbeats 1000000
namespace L2
open PySem PySem.Spec
theorem map_at {ns : List Int} {i : Nat} {x : V} (h : (ns.map V.int)[i]? = some x) : ∃ n, ns[i]? = some n ∧ x = V.int n := by
  rw [List.getElem?_map] at h
  cases e : ns[i]? with
  | none => rw [e] at h; cases h
  | some n => rw [e] at h; exact ⟨n, rfl, (Option.some.inj h).symm⟩
theorem HRs.sub {H : Hp} {ex ex' : List Addr} {vs : List V} {rs : List (List Int)} (h : HRs H ex vs rs) (s : ∀ e ∈ ex', e ∈ ex) : HRs H ex' vs rs := ⟨h.len, fun k r e => by
  obtain ⟨p, e1, e2, e3⟩ := h.at_ k r e
  exact ⟨p, e1, e2, fun z hz => e3 z (s z hz)⟩⟩
end L2
set_option Elab.async false
set_option linter.all false
set_option maxRecDepth 100000
set_option maxHeartbeats 1000000
namespace L2
open PySem PySem.Spec
inductive Rch (ins : Nat) (ds : List Wd) (gs : List Go) : Nat → Prop
  | root {g : Go} : g ∈ gs → g.sg ≠ 0 → Rch ins ds gs g.th
  | fst {k : Nat} {d : Wd} : ds[k]? = some d → Rch ins ds gs (ins + k) → Rch ins ds gs d.a
  | snd {k : Nat} {d : Wd} : ds[k]? = some d → Rch ins ds gs (ins + k) → Rch ins ds gs d.b
end L2
set_option Elab.async false
set_option linter.all false
set_option maxRecDepth 100000
set_option maxHeartbeats 1000000
namespace L2
open PySem PySem.Spec
section
variable {H : Hp} {Q : VK}
theorem w_pop {l : Addr} : rPop (.ref l) [] H Q = ∃ xs y, H l = some (.lst xs) ∧ xs[xs.length - 1]? = some y ∧ Q y (upd H l (.lst xs.dropLast)) :=
  propext ⟨fun ⟨l', xs, y, e, _, h, g, q⟩ => by cases e; exact ⟨xs, y, h, g, q⟩, fun ⟨xs, y, h, g, q⟩ => ⟨l, xs, y, rfl, rfl, h, g, q⟩⟩
theorem w_extend {l b : Addr} : rExtend (.ref l) [.ref b] H Q = ∃ xs zs, H l = some (.lst xs) ∧ H b = some (.lst zs) ∧ xs.length + zs.length ≤ sizeLine ∧ Q .non (upd H l (.lst (xs ++ zs))) :=
  propext ⟨fun ⟨l', b', xs, zs, e, e2, h⟩ => by cases e; cases e2; exact ⟨xs, zs, h⟩, fun ⟨xs, zs, h⟩ => ⟨l, b, xs, zs, rfl, rfl, h⟩⟩
theorem w_reverse {l : Addr} : rReverse (.ref l) [] H Q = ∃ xs, H l = some (.lst xs) ∧ Q .non (upd H l (.lst xs.reverse)) :=
  propext ⟨fun ⟨l', xs, e, _, h⟩ => by cases e; exact ⟨xs, h⟩, fun ⟨xs, h⟩ => ⟨l, xs, rfl, rfl, h⟩⟩
theorem w_clear {l : Addr} : rClear (.ref l) [] H Q = ∃ xs, H l = some (.lst xs) ∧ Q .non (upd H l (.lst [])) :=
  propext ⟨fun ⟨l', xs, e, _, h⟩ => by cases e; exact ⟨xs, h⟩, fun ⟨xs, h⟩ => ⟨l, xs, rfl, rfl, h⟩⟩
theorem w_cat {l b : Addr} : rCat (.ref l) (.ref b) H Q = ∃ xs zs, H l = some (.lst xs) ∧ H b = some (.lst zs) ∧ xs.length + zs.length ≤ sizeLine ∧ ∀ p, H p = none → Q (.ref p) (upd H p (.lst (xs ++ zs))) :=
  propext ⟨fun ⟨l', b', xs, zs, e, e2, h⟩ => by cases e; cases e2; exact ⟨xs, zs, h⟩, fun ⟨xs, zs, h⟩ => ⟨l, b, xs, zs, rfl, rfl, h⟩⟩
end
section
variable {X : Cx}
theorem call_listK (K : PySem.W.Frag) (h : X.K = K := by rfl) : CallR X (.type "list") (fun xs H Q => ∃ p ys, xs = [.ref p] ∧ (SqL K H p ys ∨ SqT K H p ys) ∧ ∀ l, H l = none → Q (.ref l) (upd H l (.lst ys))) := by subst h; exact call_list_of
end
section
variable {K : PySem.W.Frag} {σ : St} {H : Hp} {Q : VK} {cs : List Nat} {tt : TT} {te : TE}
end
def fr (ms : List Nat) : Nat → Nat
  | 0 => 0
  | n + 1 => (if n ∈ ms then 0 else 1) + fr ms n
end L2
set_option Elab.async false
set_option linter.all false
set_option maxRecDepth 100000
set_option maxHeartbeats 1000000
namespace L2
open PySem PySem.Spec PyProof.Rows
section
variable {prog : Program} {w : World} {A : Around} {E : Value → Shared → Prop} {s : Shared}
end
section
variable {prog : Program} {w : World} {A : Around} {s : Shared} {R : Result → Shared → Prop} {xs ys : Array Value} {z TI TO i1 i2 l1 l2 S lo : Addr}
end
section
variable {prog : Program} {w : World} {A : Around} {E : Value → Shared → Prop} {s : Shared} {xs ys : Array Value} {z TI TO i1 i2 l1 l2 : Addr}
end
def tLZ (K : PySem.W.Frag) (ta : TA) : TE := fun σ H Q => ta σ H fun vs H1 => ∃ a b us ws, vs = [.ref a, .ref b] ∧ SqL K H1 a us ∧ SqL K H1 b ws ∧ ws.length = us.length ∧ us.length ≤ 1000 ∧
  ∀ l zs H', H1 l = none → Same H1 H' → H' l = some (.lst zs) → zs.length = us.length → (∀ (k : Nat) (x y : V), us[k]? = some x → ws[k]? = some y → ∃ t : Addr, zs[k]? = some (.ref t) ∧ H' t = some (.tup [x, y])) → Q (.ref l) H'
theorem w_LZ {K : PySem.W.Frag} {ta : TA} {σ : St} {H : Hp} {Q : VK} : tLZ K ta σ H Q = (ta σ H fun vs H1 => ∃ a b us ws, vs = [.ref a, .ref b] ∧ SqL K H1 a us ∧ SqL K H1 b ws ∧ ws.length = us.length ∧ us.length ≤ 1000 ∧
  ∀ l zs H', H1 l = none → Same H1 H' → H' l = some (.lst zs) → zs.length = us.length → (∀ (k : Nat) (x y : V), us[k]? = some x → ws[k]? = some y → ∃ t : Addr, zs[k]? = some (.ref t) ∧ H' t = some (.tup [x, y])) → Q (.ref l) H') := rfl
end L2
set_option Elab.async false
set_option linter.all false
set_option maxRecDepth 100000
set_option maxHeartbeats 1000000
namespace L2
open PySem PySem.Spec
section
variable {K : PySem.W.Frag} {σ : St} {H : Hp} {Q : VK} {cs : List Nat} {te : TE}
theorem comp_pairs {l : Addr} {zs : List V} {xs ys : List Int} (hl : H l = some (.lst zs)) (hlen : zs.length = xs.length) (hlen2 : ys.length = xs.length) (hz : xs.length ≤ 1000)
    (ht : ∀ (k : Nat) (x y : Int), xs[k]? = some x → ys[k]? = some y → ∃ t : Addr, zs[k]? = some (.ref t) ∧ H t = some (.tup [.int x, .int y])) (f : Int → Int → Int)
    (hb : ∀ x y H' (R : VK), Same H H' → R (.int (f x y)) H' → te ([some (.int x), some (.int y)] ++ capV cs σ) H' R)
    (hd : ∀ acc H', H acc = none → Same H H' → H' acc = some (.lst ((List.zipWith f xs ys).map V.int)) → Q (.ref acc) H') :
    CompIt (Itl K l) 2 cs (gTupM 2 (gCons (gName 0) (gCons (gName 1) gNil))) tYes te σ H Q := by
  refine comp_any xs.length (fun acc i ws H' => Same H H' ∧ H' acc = some (.lst ws) ∧ ws = ((List.zipWith f xs ys).take i).map V.int) (le_size hz) ?_ ?_ ?_ ?_ ?_ ?_
  · rintro acc i ws H' hi ⟨s, _, _⟩
    exact ⟨zs, zs[i]'(by omega), SqL.of (s _ _ hl), List.getElem?_eq_getElem _⟩
  · rintro acc ws H' ⟨s, _, _⟩
    exact ⟨zs, SqL.of (s _ _ hl), by omega⟩
  · intro acc ha
    exact ⟨same_new ha _, upd_same, rfl⟩
  · rintro acc i ws H' ⟨s, ha, rfl⟩
    exact ⟨ha, by rw [List.length_map, List.length_take]; omega⟩
  · rintro acc i ws H' ts v H2 N hn hi ⟨s, ha, hws⟩ y hts hN
    obtain ⟨e, hx0⟩ := y
    have hx := hx0 zs (SqL.of (s _ _ hl))
    clear hx0
    subst e
    have e1 : xs[i]? = some xs[i] := List.getElem?_eq_getElem hi
    have e2 : ys[i]? = some (ys[i]'(by omega)) := List.getElem?_eq_getElem _
    obtain ⟨t, q1, q2⟩ := ht i _ _ e1 e2
    generalize xs[i] = x at e1 q2
    generalize (ys[i]'(by omega)) = y at e2 q2
    rw [hx] at q1
    cases q1
    obtain ⟨t0, t1, rfl⟩ : ∃ t0 t1, ts = [t0, t1] := by
      match ts, hts with
      | [a, b], _ => exact ⟨a, b, rfl⟩
    rw [w_gTupM]
    refine ⟨_, s _ _ q2, rfl, ?_⟩
    rw [w_gCons, w_gName, w_gCons, w_gName, w_gNil, w_yes, if_pos rfl]
    refine hb x y _ _ s ⟨ha, hN _ [_, _] _ rfl ⟨same_upd hn s, upd_same, ?_⟩⟩
    have ez : (List.zipWith f xs ys)[i]? = some (f x y) := by rw [List.getElem?_zipWith, e1, e2]
    rw [List.take_add_one, ez, List.map_append, ← hws]
    rfl
  · rintro acc ws H' hn ⟨s, ha, hws⟩
    rw [List.take_of_length_le (by rw [List.length_zipWith]; omega)] at hws
    subst hws
    exact hd acc H' hn s ha
end
end L2
set_option Elab.async false
set_option linter.all false
set_option maxRecDepth 100000
set_option maxHeartbeats 1000000
namespace L2
open PySem PySem.Spec
section
variable {K : PySem.W.Frag} {σ : St} {H : Hp} {Q : VK} {cs : List Nat} {te : TE}
theorem comp_tups {J : It} {α : Type} {f : α → List V} {xs : List V} (zs : List α) (hzl : zs.length = xs.length) (hz : xs.length ≤ 1000)
    (hJ : ∀ H', Same H H' → (∀ i, i < xs.length → J.go i H') ∧ (∀ i x H2, J.yld i H' x H2 → H2 = H' ∧ (i < xs.length → xs[i]? = some x)) ∧ J.stop xs.length H')
    (hb : ∀ (i : Nat) x z H' (R : VK), xs[i]? = some x → zs[i]? = some z → Same H H' → (∀ r H5, H' r = none → Same H' H5 → H5 r = some (.tup (f z)) → R (.ref r) H5) → te (some x :: capV cs σ) H' R)
    (hd : ∀ acc ys H', H acc = none → Same H H' → H' acc = some (.lst ys) → HTs f H' ys zs → Q (.ref acc) H') :
    CompIt J 1 cs (gName 0) tYes te σ H Q := by
  refine comp_any xs.length (fun acc i ws H' => Same H H' ∧ H' acc = some (.lst ws) ∧ HTs f H' ws (zs.take i)) (le_size hz) ?_ ?_ ?_ ?_ ?_ ?_
  · rintro acc i ws H' hi ⟨s, _, _⟩
    exact (hJ _ s).1 i hi
  · rintro acc ws H' ⟨s, _, _⟩
    exact (hJ _ s).2.2
  · intro acc ha
    exact ⟨same_new ha _, upd_same, hts_nil⟩
  · rintro acc i ws H' ⟨s, ha, ht⟩
    exact ⟨ha, by rw [ht.len, List.length_take]; omega⟩
  · rintro acc i ws H' ts v H2 N hn hi ⟨s, ha, ht⟩ y hts hN
    obtain ⟨e, hx⟩ := (hJ _ s).2.1 i v H2 y
    have hx := hx hi
    subst e
    obtain ⟨t0, rfl⟩ : ∃ t0, ts = [t0] := by
      match ts, hts with
      | [a], _ => exact ⟨a, rfl⟩
    have hz' : zs[i]? = some (zs[i]'(by omega)) := List.getElem?_eq_getElem _
    generalize (zs[i]'(by omega)) = z at hz'
    rw [w_gName, w_yes, if_pos rfl]
    refine hb i v z _ _ hx hz' s fun r H5 hr s5 h5 => ?_
    have ha5 := s5 _ _ ha
    refine ⟨ha5, hN _ [_] _ rfl ⟨same_upd hn (s.trans s5), upd_same, ?_⟩⟩
    have tk : zs.take (i + 1) = zs.take i ++ [z] := by rw [List.take_add_one, hz']; rfl
    rw [tk]
    exact ((ht.same s5).chgL ha5 (Chg.upd _)).snoc (by rw [upd_ne (ne_of h5 ha5 (by intro z; cases z))]; exact h5)
  · rintro acc ws H' hn ⟨s, ha, ht⟩
    rw [List.take_of_length_le (by omega)] at ht
    exact hd acc ws H' hn s ha ht
end
end L2
set_option Elab.async false
set_option linter.all false
set_option maxRecDepth 100000
set_option maxHeartbeats 1000000
namespace L2
open PySem PySem.Spec
end L2
set_option Elab.async false
set_option linter.all false
set_option maxRecDepth 100000
set_option maxHeartbeats 1000000
namespace L2
open PySem PySem.Spec
section
variable {α : Type} {f : α → List V} {K : PySem.W.Frag} {H : Hp} {l l' : Addr} {ys ys' : List V} {xs : List α} {Q : VK}
end
def lrDt (rs : List (List Int)) : Dt := .l (rs.map fun r => .l ((r.map V.int).map Dt.f))
theorem hrs_isL {K : PySem.W.Frag} {H : Hp} {ex : List Addr} : ∀ {rs : List (List Int)} {vs : List V}, HRs H ex vs rs → IsL K H vs (rs.map fun r => .l ((r.map V.int).map Dt.f))
  | [], vs, h => by
    have : vs = [] := List.eq_nil_of_length_eq_zero h.len
    subst this
    rw [List.map_nil, IsL]
  | r :: rs, vs, h => by
    obtain ⟨p, h1, h2, h3⟩ := h.at_ 0 r rfl
    cases vs with
    | nil => cases h1
    | cons v vs =>
      cases h1
      rw [List.map_cons, IsL]
      refine ⟨_, _, rfl, is_lst (SqL.of h2) (flat_ints r), hrs_isL (ex := ex) ⟨by have := h.len; simpa using this, fun k x hx => ?_⟩⟩
      exact h.at_ (k + 1) x hx
theorem depL_lr : ∀ (rs : List (List Int)), depL (rs.map fun r => .l ((r.map V.int).map Dt.f)) ≤ 1
  | [] => by rw [List.map_nil, depL]; decide
  | a :: r => by
    rw [List.map_cons, depL, dep_l]
    have := depL_lr r
    omega
theorem lr_is {K : PySem.W.Frag} {H : Hp} {ex : List Addr} {l : Addr} {vs : List V} {rs : List (List Int)} (h : H l = some (.lst vs)) (hr : HRs H ex vs rs) : Is K H (.ref l) (lrDt rs) := by
  unfold lrDt
  rw [Is]
  exact ⟨l, vs, rfl, SqL.of h, hrs_isL hr⟩
end L2
set_option Elab.async false
set_option linter.all false
set_option maxRecDepth 100000
set_option maxHeartbeats 1000000
namespace L2
open PySem PySem.Spec PyProof.Rows
def tLR (ta : TA) : TE := fun σ H Q => ta σ H fun vs H1 => ∃ j : Nat, vs = [.int (j : Int)] ∧ j ≤ 1000 ∧ ∀ l H', H1 l = none → Same H1 H' → H' l = some (.lst (rngV 0 j)) → Q (.ref l) H'
theorem w_LR {ta : TA} {σ : St} {H : Hp} {Q : VK} : tLR ta σ H Q = (ta σ H fun vs H1 => ∃ j : Nat, vs = [.int (j : Int)] ∧ j ≤ 1000 ∧ ∀ l H', H1 l = none → Same H1 H' → H' l = some (.lst (rngV 0 j)) → Q (.ref l) H') := rfl
def iRngD (ta : TA) : TI := fun σ H R => ta σ H fun vs H1 => ∃ i : Int, vs = [.int i, .int (-1), .int (-1)] ∧ (-1 ≤ i ∧ i < 2 ^ 31) ∧ R (Itr3 i (-1) (i + 1).toNat) H1
theorem w_forD {σ : St} {H : Hp} {D : Ends} {g : TG} {tb : TS} {ta : TA} : tFor (iRngD ta) g tb D σ H = (ta σ H fun vs H1 => ∃ i : Int, vs = [.int i, .int (-1), .int (-1)] ∧ (-1 ≤ i ∧ i < 2 ^ 31) ∧ ForR3 i (-1) (i + 1).toNat g tb D σ H1) := rfl
section
variable {K : PySem.W.Frag} {σ : St} {H : Hp} {Q : VK} {cs : List Nat} {te : TE}
end
end L2
set_option Elab.async false
set_option linter.all false
set_option maxRecDepth 100000
set_option maxHeartbeats 1000000
namespace L2
open PySem PySem.Spec PyProof.Rows
section
variable {prog : Program} {w : World} {A : Around} {E : Value → Shared → Prop} {s : Shared}
end
section
variable {prog : Program} {w : World} {A : Around} {E : Value → Shared → Prop} {s : Shared}
end
def Itzt (K : PySem.W.Frag) (a b : Addr) : It :=
  ⟨fun i H => ∃ xs ys, SqT K H a xs ∧ SqT K H b ys ∧ i < xs.length ∧ i < ys.length,
   fun i H x H' => ∃ T u v, x = .ref T ∧ H T = none ∧ H' = upd H T (.tup [u, v]) ∧ (∀ xs, SqT K H a xs → xs[i]? = some u) ∧ (∀ ys, SqT K H b ys → ys[i]? = some v),
   fun i H => ∃ xs ys, SqT K H a xs ∧ SqT K H b ys ∧ (xs.length ≤ i ∨ ys.length ≤ i)⟩
def iZip2 (K : PySem.W.Frag) (ta : TA) : TI := fun σ H R => ta σ H fun vs H1 => ∃ a b xs ys, vs = [.ref a, .ref b] ∧ ((SqL K H1 a xs ∧ SqL K H1 b ys ∧ R (Itz K a b) H1) ∨ (SqT K H1 a xs ∧ SqT K H1 b ys ∧ R (Itzt K a b) H1))
theorem w_compZ2 {K : PySem.W.Frag} {σ : St} {H : Hp} {Q : VK} {ta : TA} {nt : Nat} {cs : List Nat} {g : TG} {tt : TT} {te : TE} : tComp (iZip2 K ta) nt cs g tt te σ H Q = (ta σ H fun vs H1 => ∃ a b xs ys, vs = [.ref a, .ref b] ∧ ((SqL K H1 a xs ∧ SqL K H1 b ys ∧ CompIt (Itz K a b) nt cs g tt te σ H1 Q) ∨ (SqT K H1 a xs ∧ SqT K H1 b ys ∧ CompIt (Itzt K a b) nt cs g tt te σ H1 Q))) := rfl
end L2
set_option Elab.async false
set_option linter.all false
set_option maxRecDepth 100000
set_option maxHeartbeats 1000000
namespace L2
open PySem PySem.Spec PyProof.Rows
structure Gt (ins : Nat) (ds : List Wd) (gs : List Go) (i : Nat) (ms : List Nat) : Prop where
  sd : ∀ x ∈ ms, Rch ins ds gs x
  rt : ∀ g ∈ gs, g.sg ≠ 0 → g.th ∈ ms
  cl : ∀ k d, ds[k]? = some d → ds.length ≤ k + i → ins + k ∈ ms → d.a ∈ ms ∧ d.b ∈ ms
  ln : ms.length ≤ gs.length + 2 * i
def kp (bs : List Bool) (ins j : Nat) : Prop := j < ins ∨ bs[j]? = some true
instance (bs : List Bool) (ins j : Nat) : Decidable (kp bs ins j) := by unfold kp; infer_instance
section
variable {ins : Nat} {ds : List Wd} {gs : List Go} {bs : List Bool}
end
section
variable {K : PySem.W.Frag} {σ : St} {H : Hp} {Q : VK} {cs : List Nat} {te : TE}
end
end L2
set_option Elab.async false
set_option linter.all false
set_option maxRecDepth 100000
set_option maxHeartbeats 1000000
namespace L2
open PySem PySem.Spec PyProof.Rows
def TrX (h : Heap) (e : Addr) (C : Value) (d : Option Addr) (T : Addr) : Prop :=
  ∃ oe vs oT ts, h.get? e = some oe ∧ oe.cls = C ∧ oe.dict = d ∧ oe.data = .fields vs ∧ vs[1]? = some (.ref T) ∧ T ≠ e ∧ h.get? T = some oT ∧ oT.data = .fields ts ∧ ts[3]? = some .none
def NwX (h : Heap) (e : Addr) (C : Value) (d : Option Addr) : Prop := ∃ oe vs, h.get? e = some oe ∧ oe.cls = C ∧ oe.dict = d ∧ oe.data = .fields vs ∧ vs[1]? = some .none
structure Lv (fr : List Addr) (e : Addr) (C : Value) (d : Option Addr) (T : Option Addr) (h h' : Heap) : Prop where
  keep : ∀ b o, b ∉ fr → b ≠ e → some b ≠ T → h.get? b = some o → h'.get? b = some o
  slot : ∀ b o, b ∈ fr → h.get? b = some o → ∃ sl, h'.get? b = some { o with slots := sl }
  exc : TrX h' e C d h.objs.size
section
variable {M : Model} {A : Around} {E : Value → Shared → Prop} {s : Shared} {base : Heap} {env : Env} {outer : List Env} {L e : Addr} {oe : Obj} {vs : Array Value} {Q : Unit → Shared → Prop}
theorem lv_entry {head : Value} {hadNext : Bool} (hfr : A.frames = some (env :: outer)) (hl : s.heap.FunFrames base (env :: outer)) (hf : env.frame = some L)
    (he : s.heap.get? e = some oe) (hd : oe.data = .fields vs) (hsz : 1 < vs.size)
    (h : ∀ h', Lv ((env :: outer).filterMap (·.frame)) e oe.cls oe.dict none s.heap h' → Q () { s with heap := h' }) :
    wpAny M A (do let a ← frameOf env; let pl ← entryPlaceOf L hadNext; let b ← EntryCells.newEntry head a .none (rawInt L) .none pl; setField (.ref e) 1 b) (fun _ s' => wpAny M A (setFlight (.ref e) none) Q E s') E s := by
  have hene : e ∉ (env :: outer).filterMap (·.frame) := fun hm => by
    obtain ⟨_, o, ho, hnf⟩ := hl.mem hm
    rw [he] at ho; injection ho with ho; subst ho; exact hnf vs hd
  refine wpAny_bind (wpAny_frameOf_fun hfr hl hf fun h1 s1 => ?_)
  refine wpAny_bind (wpAny_entryPlaceOf fun pl hpl => ?_)
  unfold EntryCells.newEntry newFields
  refine wpAny_bind (wpAny_newObj_type ?_ (hpl.sizeOk5 _ _ _ _ _))
  have e1 : h1.get? e = some oe := (s1.2.1 e hene).trans he
  generalize hob : ({ cls := .type "traceback", dict := none, data := .fields ([head, .ref L, .none, rawInt L, .none] ++ (if pl.isEmpty then List.replicate 6 Value.none else pl)).toArray } : Obj) = ob
  have e2 := Heap.get?_push_of_some (h := h1) ob e1
  refine wpAny_setField e2 hd hsz ?_
  have hTe : h1.objs.size ≠ e := Nat.ne_of_gt (Heap.lt_size e1)
  have d3 := Obj.data_mapFields hd (·.setIfInBounds 1 (Value.ref h1.objs.size))
  have e3 := Heap.get?_update_self (Obj.mapFields (·.setIfInBounds 1 (Value.ref h1.objs.size))) e2 (Obj.isFreed_of_fields d3)
  have hobd : ob.data = .fields ([head, .ref L, .none, rawInt L, .none] ++ (if pl.isEmpty then List.replicate 6 Value.none else pl)).toArray := by rw [← hob]
  have T3 := (Heap.get?_update_other (h1.push ob) (Obj.mapFields (·.setIfInBounds 1 (Value.ref h1.objs.size))) (Ne.symm hTe)).trans (Heap.get?_push_size h1 (by rw [← hob]; rfl))
  unfold setFlight
  refine wpAny_bind (wpAny_field e3 d3 (x := .ref h1.objs.size) (by simp [hsz]) ?_)
  rw [if_pos (show (Value.ref h1.objs.size != Value.none) = true from by simp)]
  refine wpAny_setField T3 hobd (by simp only [List.size_toArray, List.length_append, List.length_cons, List.length_nil] <;> omega) (h _ ?_)
  have keep : ∀ b o, b ≠ e → h1.get? b = some o → (((h1.push ob).update e (Obj.mapFields (·.setIfInBounds 1 (Value.ref h1.objs.size)))).update h1.objs.size (Obj.mapFields (·.setIfInBounds 3 ((none : Option Addr).elim Value.none fun f => rawInt f)))).get? b = some o := fun b o hbe hb => by
    have hbT : h1.objs.size ≠ b := Nat.ne_of_gt (Heap.lt_size hb)
    rw [Heap.get?_update_other _ _ hbT, Heap.get?_update_other _ _ (Ne.symm hbe)]
    exact Heap.get?_push_of_some _ hb
  refine ⟨fun b o hb hbe _ hg => keep b o hbe ((s1.2.1 b hb).trans hg), fun b o hb hg => ?_, ?_⟩
  · obtain ⟨sl, hs⟩ := s1.2.2 b o hg
    exact ⟨sl, keep b _ (fun z => hene (z ▸ hb)) hs⟩
  · rw [← s1.1]
    refine ⟨_, _, _, _, ?_, Obj.cls_mapFields _ _, ?_, d3, by simp [hsz], hTe, Heap.get?_update_self _ T3 (Obj.isFreed_of_fields (Obj.data_mapFields hobd _)), Obj.data_mapFields hobd _, by first | (simp; done) | (rcases hpl with rfl | ⟨_, _, _, _, _, _, _, rfl⟩ <;> simp)⟩
    · rw [Heap.get?_update_other _ _ hTe]; exact e3
    · obtain ⟨oc, od, dt, sl⟩ := oe
      cases hd
      rfl
theorem lv_first {C : Value} {d : Option Addr} (hfr : A.frames = some (env :: outer)) (hl : s.heap.FunFrames base (env :: outer)) (hf : env.frame = some L) (he : NwX s.heap e C d)
    (h : ∀ h', Lv ((env :: outer).filterMap (·.frame)) e C d none s.heap h' → Q () { s with heap := h' }) : wpAny M A (leaving env (.ref e)) Q E s := by
  obtain ⟨oe, vs, he, rfl, rfl, hd, h1⟩ := he
  unfold leaving noteFrame
  simp only [hf]
  refine wpAny_bind (wpAny_bind (wpAny_field he hd h1 ?_))
  rw [if_neg (by decide)]
  exact lv_entry hfr hl hf he hd (Array.getElem?_eq_some_iff.mp h1).1 h
theorem lv_nextN {C : Value} {d : Option Addr} {T : Addr} (hfr : A.frames = some (env :: outer)) (hl : s.heap.FunFrames base (env :: outer)) (hf : env.frame = some L) (ht : TrX s.heap e C d T)
    (h : ∀ h', Lv ((env :: outer).filterMap (·.frame)) e C d (some T) s.heap h' → Q () { s with heap := h' }) : wpAny M A (noteFrame (.ref e) env) (fun _ s' => wpAny M A (setFlight (.ref e) none) Q E s') E s := by
  obtain ⟨oe, vs, oT, ts, he, rfl, rfl, hd, h1, hTe, hT, hdT, h3⟩ := ht
  unfold noteFrame
  simp only [hf]
  refine wpAny_bind (wpAny_field he hd h1 ?_)
  rw [if_pos (show (Value.ref T != Value.none) = true from by simp)]
  refine wpAny_bind (wpAny_field hT hdT h3 ?_)
  rw [if_neg (show ¬ ((Value.none == rawInt L) = true) from by simp [rawInt])]
  refine wpAny_bind (wpAny_setField hT hdT (Array.getElem?_eq_some_iff.mp h3).1 ?_)
  have other : ∀ b, b ≠ T → (s.heap.update T (Obj.mapFields (·.setIfInBounds 3 Value.none))).get? b = s.heap.get? b := fun b hb => Heap.get?_update_other _ _ (Ne.symm hb)
  have noT : ∀ b o, s.heap.get? b = some o → (∀ vs, o.data ≠ .fields vs) → b ≠ T := fun b o hb hnf q => by
    rw [q, hT] at hb; injection hb with hb; subst hb; exact hnf ts hdT
  have frT : ∀ b ∈ (env :: outer).filterMap (·.frame), b ≠ T := fun b hb => by
    obtain ⟨_, o, ho, hnf⟩ := hl.mem hb
    exact noT b o ho hnf
  refine lv_entry hfr (hl.of_keeps fun b o hb hnf => ⟨o, (other b (noT b o hb hnf)).trans hb, rfl⟩) hf ((other e (Ne.symm hTe)).trans he) hd (Array.getElem?_eq_some_iff.mp h1).1 fun h' z => h h' ⟨fun b o hb hbe hbT hg => ?_, fun b o hb hg => ?_, ?_⟩
  · exact z.keep b o hb hbe (by simp) ((other b (fun q => hbT (by rw [q]))).trans hg)
  · exact z.slot b o hb ((other b (frT b hb)).trans hg)
  · have := z.exc
    rw [Heap.size_update] at this
    exact this
end
def CXe (P : Program) (w : World) (base : Heap) : CXT := fun outer H s E e s' => ∃ (x T : Addr) (C : Value) (d : Option Addr) (H' : Hp), e = .ref x ∧ s'.os = s.os ∧ AllBare s'.gens ∧ Un (frs outer) [] H H' s.heap s'.heap ∧ HOk P w H' s'.heap ∧
  TrX s'.heap x C d T ∧ s.heap.get? x = none ∧ s.heap.get? T = none ∧ H' x = none ∧ H' T = none ∧ E C d H'
def Raises (X : Cx) (E : XK) : Prop := ∀ (pins : List (Addr × Obj)) (σ : St) (H : Hp) (s : Shared) (e : Addr) (C : Value) (d : Option Addr), Inv X pins σ H s → NwX s.heap e C d → H e = none → X.s₀.heap.get? e = none → E C d H → X.xe (.ref e) s
section
variable {P : Program} {w : World} {K : PySem.W.Frag} {mg : Str → Option Value} {base : Heap} {N : List Str} {qual : Str} {scope : Scope} {f : Addr} {cd : Value} {A : Around} {outer : List Env} {s : Shared} {H : Hp} {E : XK}
theorem leave_ok {pins : List (Addr × Obj)} {σ : St} {H' : Hp} {s' : Shared} {h' : Heap} {x : Addr} {C : Value} {d : Option Addr} {To : Option Addr}
    (I : Inv (cxOf (CXe P w base) P w K mg base N qual scope f cd A outer s H E) pins σ H' s') (l : Lv ((envOfC qual scope s.heap.objs.size f cd :: outer).filterMap (·.frame)) x C d To s'.heap h')
    (hx : s.heap.get? x = none) (hn : H' x = none) (hT : ∀ T, To = some T → s.heap.get? T = none ∧ H' T = none) (he : E C d H') : CXe P w base outer H s E (.ref x) { s' with heap := h' } := by
  have st : (cxOf (CXe P w base) P w K mg base N qual scope f cd A outer s H E).stack = envOfC qual scope s.heap.objs.size f cd :: outer := rfl
  have inS : ∀ b, b ∈ (envOfC qual scope s.heap.objs.size f cd :: outer).filterMap (·.frame) → b = s.heap.objs.size ∨ b ∈ frs outer := fun b hb => by
    have := I.stkSub b hb
    exact List.mem_cons.mp this
  have oldS : ∀ b o, s.heap.get? b = some o → b ∉ frs outer → b ∉ (envOfC qual scope s.heap.objs.size f cd :: outer).filterMap (·.frame) := fun b o e hb z => by
    rcases inS b z with q | q
    · exact absurd (Heap.lt_size e) (by rw [q]; exact Nat.lt_irrefl _)
    · exact hb q
  have ltx : ∀ b o, s.heap.get? b = some o → b ≠ x := fun b o e z => by rw [z, hx] at e; cases e
  have ltT : ∀ b o, s.heap.get? b = some o → some b ≠ To := fun b o e z => by rw [(hT b z.symm).1] at e; cases e
  have sub : ∀ b, b ∈ frs outer → b ∈ (envOfC qual scope s.heap.objs.size f cd :: outer).filterMap (·.frame) := fun b hb => by
    rw [List.filterMap_cons]
    split
    · exact hb
    · exact List.mem_cons_of_mem _ hb
  refine ⟨x, s'.heap.objs.size, C, d, H', rfl, I.os, I.bare, ⟨fun b o e n hb hx' => ?_, fun b o e n hb hx' => ?_, fun b o e n hx' => I.base.free b o e n hx', fun b o e hx' => ?_, I.base.tups, I.base.frzs, I.base.tbls⟩, fun b u q => ?_, l.exc, hx, Heap.get?_none_of_le I.sz, hn, I.hok.fresh (Nat.le_refl _), he⟩
  · exact l.keep b o (oldS b o e hb) (ltx b o e) (ltT b o e) (I.base.keep b o e n hb hx')
  · obtain ⟨sl, e1⟩ := I.base.slot b o e n hb hx'
    obtain ⟨sl2, e2⟩ := l.slot b _ (sub b hb) e1
    exact ⟨sl2, e2⟩
  · obtain ⟨o', e1⟩ := I.base.there b o e hx'
    by_cases hb : b ∈ (envOfC qual scope s.heap.objs.size f cd :: outer).filterMap (·.frame)
    · obtain ⟨sl, e2⟩ := l.slot b o' hb e1
      exact ⟨_, e2⟩
    · exact ⟨o', l.keep b o' hb (ltx b o e) (ltT b o e) e1⟩
  · have trk : ∀ c v, H' c = some v → c ∉ (envOfC qual scope s.heap.objs.size f cd :: outer).filterMap (·.frame) ∧ c ≠ x ∧ some c ≠ To := fun c v e => by
      refine ⟨fun z => ?_, fun z => ?_, fun z => ?_⟩
      · have := I.stkFree c z
        rw [e] at this
        cases this
      · rw [z, hn] at e
        cases e
      · rw [(hT c z.symm).2] at e
        cases e
    refine (I.hok b u q).stay (fun c v hc e => ?_) (fun _ z => z) fun _ _ z => z
    have tc : ∃ v, H' c = some v := by
      rcases hc with z | z
      · rw [z]; exact ⟨_, q⟩
      · exact ⟨_, z⟩
    obtain ⟨v', hv⟩ := tc
    obtain ⟨n1, n2, n3⟩ := trk c v' hv
    exact l.keep c v n1 n2 n3 e
theorem raises_of : Raises (cxOf (CXe P w base) P w K mg base N qual scope f cd A outer s H E) E := by
  intro pins σ H' s' e C d I hw hn hs he
  exact lv_first (base := base) (L := s.heap.objs.size) I.ok.frames I.stack rfl hw fun h' l => leave_ok I l hs hn (fun T z => by cases z) he
end
structure CalX (P : Program) (w : World) (K : PySem.W.Frag) (mg : Str → Option Value) (base : Heap) (k : Nat) (x : Str) (ps : List Str) (sp : Sp) : Prop where
  ex : ∃ (f : Addr) (fd : FuncData), FnOk P w K mg base (CXe P w base) k f fd ps sp ∧ mg x = some (.ref f) ∧ PySem.W.keepIn K (.ref f) = true ∧ Binds K fd ps []
section
variable {X : Cx} {k : Nat} {x : Str} {ps : List Str} {sp : Sp} {e : Expr} {es : List Expr} {t : TA} {p pos : Pos} {E : XK}
end
section
variable {P : Program} {w : World} {K : PySem.W.Frag} {mg : Str → Option Value} {base : Heap}
theorem mkCalX {x qual : Str} {st : Stmt} {N ps : List Str} {k : Nat} {sp : Sp} (T : ∃ (f : Addr) (fd : FuncData), Fun K x qual st f fd ∧ mg x = some (.ref f) ∧ Binds K fd ps []) (S : FnScope N ps (defScope st)) (len : ∀ vs H Q E, sp vs H Q E → vs.length = ps.length)
    (hbody : ∀ (f : Addr) (cdv : Value) (A : Around) (outer : List Env) (s : Shared) (H : Hp) (vs : List V) (Q : VK) (E : XK), Room k (A.deeper (envOfC qual (defScope st) s.heap.objs.size f cdv)) → sp vs H Q E →
      ∃ t, PSs (cxOf (CXe P w base) P w K mg base N qual (defScope st) f cdv A outer s H E) (defBody st) t ∧ t { nx := fun _ H' => Q .non H', rt := Q } (start N vs) H) : CalX P w K mg base (k + 1) x ps sp := by
  obtain ⟨f, fd, F, m, b⟩ := T
  obtain ⟨oc, od, kV, doc, pm, an, cdv, ct, osl, rfl, lk, hcd⟩ := F.ex
  exact ⟨f, _, fn_of lk hcd S len fun A outer s H vs Q E hr hsp => hbody f cdv A outer s H vs Q E hr hsp, m, F.kp, b⟩
end
end L2
set_option Elab.async false
set_option linter.all false
set_option maxRecDepth 100000
set_option maxHeartbeats 1000000
namespace L2
open PySem PySem.Spec PyProof.Rows
theorem exc_obj {K : PySem.W.Frag} {h : Heap} {C : Addr} {bmB : List Value} {newId : String} (X : K.In h) (q : PySem.W.excIn K C bmB newId = true) :
    ∃ bm N nm q bs hdct sn sub ab col dd k0 k1 k2 k3 k5 mN, h.get? C = some (excClassObj nm q C N bs bm hdct sn sub ab col dd k0 k1 k2 k3 k5 newId) ∧ h.Ns N mN ∧ mN "__init__" = none ∧ OwnTail h bmB bm := by
  unfold PySem.W.excIn at q
  split at q
  · rename_i dd cd sl ho
    split at q
    · rename_i C' bm k0 k1 k2 k3 n k5 hm hs
      simp only [Bool.and_eq_true, beq_iff_eq, Bool.not_eq_true'] at q
      obtain ⟨⟨⟨⟨⟨rfl, rfl⟩, hdel⟩, ht⟩, hok⟩, hni⟩ := q
      obtain ⟨nm, bs, mro, ns, qn, hd, sn, sub, ab, col, del⟩ := cd
      dsimp only at hm hdel hok hni
      subst hm hdel
      have hsl : sl = #[k0, k1, k2, k3, some (.builtin n), k5] := by
        obtain ⟨l⟩ := sl
        simp only at hs
        rw [hs]
      subst hsl
      exact ⟨bm, ns, nm, qn, bs, hd, sn, sub, ab, col, dd, k0, k1, k2, k3, k5, _, X _ _ ho, .of_isNs (PySem.W.isNs_of_in X hok), PySem.W.nsMap_none_of_in X hok hni, PySem.W.tail_of_in X ht⟩
    · cases q
  · cases q
theorem ObjOk.there {P : Program} {w : World} {H : Hp} {h : Heap} {a : Addr} {o : HO} (x : ObjOk P w H h a o) : ∃ u, h.get? a = some u := by
  cases o with
  | lst xs => obtain ⟨_, _, _, _, e⟩ := x; exact ⟨_, e⟩
  | tup xs => obtain ⟨_, _, _, o, e, _⟩ := x; exact ⟨_, e⟩
  | dK kvs => obtain ⟨_, _, _, _, o, _, _, e, _⟩ := x; exact ⟨_, e⟩
  | dT kvs => obtain ⟨_, _, _, _, o, _, _, e, _⟩ := x; exact ⟨_, e⟩
  | set S n => obtain ⟨o, _, _, _, e, _⟩ := x; exact ⟨_, e⟩
  | ins C dx fs => obtain ⟨_, _, _, e, _⟩ := x; exact ⟨_, e⟩
  | own y => obtain ⟨_, e⟩ := x; exact ⟨_, e⟩
  | xd fs => obtain ⟨_, ⟨_, _, _, e, _⟩, _⟩ := x; exact ⟨_, e⟩
  | rng lo hi => obtain ⟨_, _, _, e⟩ := x; exact ⟨_, e⟩
  | frz ob u => obtain ⟨e, _⟩ := x; exact ⟨_, e⟩
  | tbl ps => exact ⟨_, show h.get? a = some _ from x⟩
  | met f y => exact ⟨_, show h.get? a = some _ from x⟩
  | ext φ => obtain ⟨_, ⟨_, e⟩, _⟩ := x; exact ⟨_, e⟩
theorem hok_none {P : Program} {w : World} {H : Hp} {h : Heap} {a : Addr} (k : HOk P w H h) (n : h.get? a = none) : H a = none := by
  cases q : H a with
  | none => rfl
  | some o =>
    obtain ⟨u, e⟩ := ObjOk.there (k a o q)
    rw [n] at e
    cases e
def tRaise (E : XK) (C : Addr) (ta : TA) : TS := fun _ σ H => ta σ H fun vs H1 => vs.length ≤ sizeLine ∧ E (.ref C) none H1
theorem w_raise {E : XK} {C : Addr} {ta : TA} {D : Ends} {σ : St} {H : Hp} : tRaise E C ta D σ H = (ta σ H fun vs H1 => vs.length ≤ sizeLine ∧ E (.ref C) none H1) := rfl
theorem ps_raise {X : Cx} {E : XK} {x : Str} {C : Addr} {bmB : List Value} {newId initId B : String} {np cpos pos : Pos} {e : Expr} {es : List Expr} {ta : TA} (hE : Raises X E) (hq : PySem.W.excIn X.K C bmB newId = true) (FB : ExcBaseFacts B newId initId bmB)
    (hc : X.calm = true) (hex : ∀ b, b ∉ X.ex) (hg : Gl X x) (hm : X.mg x = some (.ref C)) (ha : PA X (e :: es) ta) (hd : (x == ("__debug__" : Str)) = false := by decide)
    (he : starEach (e :: es) X.env = (false, eval e X.env) :: starEach es X.env := by rfl) (hpl : (backTo cpos (starEach es X.env)).any (·.1) = false := by rfl) :
    PS X (.Raise (some (.Call (.Name x np) (e :: es) [] cpos)) none pos) (tRaise E C ta) := by
  intro pins s σ H D I h
  obtain ⟨bm, N, nm, q, bs, hdct, sn, sub, ab, col, dd, k0, k1, k2, k3, k5, mN, hC, hN, hni, T⟩ := exc_obj I.kIn hq
  obtain ⟨bm0, N0, nm0, q0, bs0, hdct0, sn0, sub0, ab0, col0, dd0, k00, k10, k20, k30, k50, mN0, hC0, hN0, hni0, T0⟩ := exc_obj I.ok.mod.kin hq
  have hb0 := hC0
  refine wpAny_Raise_call_subT (C := C) (nm := nm0) (q := q0) (N := N0) (bs := bs0) (bm := bm0) (hdct := hdct0) (sn := sn0) (sub := sub0) (ab := ab0) (col := col0) (dd := dd0) (k0 := k00) (k1 := k10) (k2 := k20) (k3 := k30) (k5 := k50)
    FB (mN := mN0) (T0.hasType FB.hasBase) (I.ok.hd hc) (by rw [he]; show (false || (backTo cpos (starEach es X.env)).any (·.1)) = false; rw [hpl]; rfl) hni0 (ld_glob I hg hm ⟨rfl, ?_⟩ hd)
  have h2 := ha cpos pins s σ H _ I h
  rw [he] at h2 ⊢
  refine Calls.evalArgs_plain (wpAny_mono h2 (fun us s1 h1 => ?_) fun _ _ y => y)
  obtain ⟨vs, H1, I1, rv, hz, hE1⟩ := h1
  refine ⟨rfl, by rw [← rv.length]; exact hz, I1.bk _ _ hC0, hN0.keeps I1.bk, T0.keeps I1.bk, fun h' x' hm' => ?_⟩
  obtain ⟨t, ht, _, _⟩ := hm'.there
  have n0 : X.s₀.heap.get? x' = none := by
    cases q : X.s₀.heap.get? x' with
    | none => rfl
    | some o =>
      obtain ⟨o', e'⟩ := I1.base.there x' o q (hex x')
      rw [hm'.new] at e'
      cases e'
  exact hE pins σ H1 _ x' (.ref C) none (I1.kept (t' := s1.toks) hm'.keeps) ⟨_, _, ht, rfl, rfl, rfl, rfl⟩ (hok_none I1.hok hm'.new) n0 hE1
section
variable {M : Model} {A : Around} {E : Value → Shared → Prop}
theorem exc_match {h : Heap} {g : Array GenState} {d : Drawn} {t : Nat} {os : OsState} {e : Addr} {oe : Obj} {Q : Bool → Shared → Prop}
    {nm q : Str} {C N : Addr} {bs bm : List Value} {hdct : Bool} {sn : List Str} {sub : List Value} {ab : Bool} {col : Option Bool} {dd : Option Addr} {k0 k1 k2 k3 k5 : Option Value} {newId : String}
    {nm' q' : Str} {B N' : Addr} {bs' bm' : List Value} {hdct' : Bool} {sn' : List Str} {sub' : List Value} {ab' : Bool} {col' : Option Bool} {dd' : Option Addr} {k0' k1' k2' k3' k5' : Option Value} {newId' : String}
    (hC : h.get? C = some (excClassObj nm q C N bs bm hdct sn sub ab col dd k0 k1 k2 k3 k5 newId)) (hB : h.get? B = some (excClassObj nm' q' B N' bs' bm' hdct' sn' sub' ab' col' dd' k0' k1' k2' k3' k5' newId'))
    (he : h.get? e = some oe) (hcls : oe.cls = .ref C) (hbase : bm'.contains (.type "BaseException") = true) (hq : Q ((Value.ref C :: bm).contains (.ref B)) ⟨h, g, d, t, os⟩) : wpAny M A (excMatches (.ref e) (.ref B)) Q E ⟨h, g, d, t, os⟩ := by
  have hcB : (Value.ref B :: bm').contains (.type "BaseException") = true := by rw [List.contains_cons, hbase, Bool.or_true]
  have f := tc_notTuple
  unfold excMatches
  repeat (first | (with_reducible refine wpAny_loadPart_at he ?_; rw [hcls]) | with_reducible refine wpAny_loadPart_at hB ?_ | (with_reducible refine wpAny_isSubtype_exc hB ?_; rw [hcB]) | with_reducible refine wpAny_isSubtype_exc hC ?_ | wp_step)
  cases hb : (Value.ref C :: bm).contains (.ref B) <;> (rw [hb] at hq; first | exact hq | (wp_walk; exact hq))
end
end L2
set_option Elab.async false
set_option linter.all false
set_option maxRecDepth 100000
set_option maxHeartbeats 1000000
namespace L2
open PySem PySem.Spec PyProof.Rows
def XP (X : Cx) (pins : List (Addr × Obj)) (σ : St) (E : XK) (e : Value) (s' : Shared) : Prop := ∃ (x T : Addr) (C : Value) (d : Option Addr) (H' : Hp), e = .ref x ∧ Inv X pins σ H' s' ∧ TrX s'.heap x C d T ∧
  (X.s₀.heap.get? x = none ∧ X.s₀.heap.get? T = none) ∧ (∀ p ∈ X.pn ++ pins, p.1 ≠ x ∧ p.1 ≠ T) ∧ H' x = none ∧ H' T = none ∧ E C d H'
abbrev TX := St → Hp → VK → XK → Prop
def PEx (X : Cx) (e : Expr) (t : TX) : Prop :=
  ∀ (pins : List (Addr × Obj)) (s : Shared) (σ : St) (H : Hp) (Q : VK) (E : XK), Inv X pins σ H s → t σ H Q E → wpAny (model X.prog X.w) X.A (eval e X.env) (EP X pins σ Q) (XP X pins σ E) s
def xCall (sp : Sp) (t : TA) : TX := fun σ H Q E => t σ H fun vs H1 => sp vs H1 Q E
theorem pex_call {X : Cx} {k : Nat} {x : Str} {ps : List Str} {sp : Sp} {e : Expr} {es : List Expr} {t : TA} {p pos : Pos} (C : CalX X.prog X.w X.K X.mg X.base k x ps sp) (hr : Room k X.A) (hex : ∀ b, b ∉ X.ex) (hg : Gl X x) (ha : PA X.nox (e :: es) t) (hd : (x == ("__debug__" : Str)) = false := by decide)
    (he : starEach (e :: es) X.env = (false, eval e X.env) :: starEach es X.env := by rfl) (hpl : (backTo pos (starEach es X.env)).any (·.1) = false := by rfl) : PEx X (.Call (.Name x p) (e :: es) [] pos) (xCall sp t) := by
  obtain ⟨f, fd, F, hm, hk, hb⟩ := C.ex
  intro pins s σ H Q E I h
  refine wpAny_Call_Name_kw (ld_glob I hg hm ?_ hd)
  refine PySem.W.callWith_K (h₀ := X.base) I.ok.mod.kin hk (wpAny_mono (ha pos pins s σ H _ (I.wish _) h) (fun us s1 ⟨vs, H1, I1, r, q⟩ => ⟨I1.kIn, ?_⟩) fun _ _ z => False.elim z) he hpl
  have I1 := I1.unwish
  have hl : us.length = ps.length := by rw [← r.length]; exact F.len _ _ _ _ q
  have hbt := hb s1 us I1.kIn (by rw [List.append_nil]; exact hl)
  rw [List.append_nil] at hbt
  refine wpAny_call (codeAny_mono (F.run X.A X.stack s1 H1 ⟨us, []⟩ us vs Q E hr I1.env0 hbt r q) fun r s' hq => ?_)
  cases r with
  | error er =>
    obtain ⟨x', T, C', d, H', rfl, os, bare, un, hok, tr, hx, hT, nx, nT, hE⟩ := hq
    have old : ∀ {y : Addr}, s1.heap.get? y = none → X.s₀.heap.get? y = none := fun {y} hy => by
      cases z : X.s₀.heap.get? y with
      | none => rfl
      | some o =>
        obtain ⟨o', e'⟩ := I1.base.there y o z (hex y)
        rw [hy] at e'
        cases e'
    refine ⟨x', T, C', d, H', rfl, I1.call' os un hok bare (fun b z => absurd z (by simp)), tr, ⟨old hx, old hT⟩, fun p' hp => ⟨fun z => ?_, fun z => ?_⟩, nx, nT, hE⟩
    · have := (I1.pin p' hp).1
      rw [z, hx] at this
      cases this
    · have := (I1.pin p' hp).1
      rw [z, hT] at this
      cases this
  | ok fl =>
    cases fl with
    | ret u => exact I1.after hq
    | next => exact False.elim hq
    | brk => exact False.elim hq
    | cont => exact False.elim hq
structure LvK (fr : List Addr) (e : Addr) (T : Addr) (h h' : Heap) : Prop where
  keep : ∀ b o, b ∉ fr → b ≠ e → some b ≠ some T → h.get? b = some o → h'.get? b = some o
  slot : ∀ b o, b ∈ fr → h.get? b = some o → ∃ sl, h'.get? b = some { o with slots := sl }
theorem Lv.k {fr : List Addr} {e T : Addr} {C : Value} {d : Option Addr} {h h' : Heap} (l : Lv fr e C d (some T) h h') : LvK fr e T h h' := ⟨l.keep, l.slot⟩
theorem inv_noted {X : Cx} {pins : List (Addr × Obj)} {σ : St} {H : Hp} {s : Shared} {h' : Heap} {x T : Addr} {C : Value} {d : Option Addr} (I : Inv X pins σ H s) (tr : TrX s.heap x C d T) (l : LvK (frs X.stack) x T s.heap h') (ox : X.s₀.heap.get? x = none) (oT : X.s₀.heap.get? T = none)
    (np : ∀ p ∈ X.pn ++ pins, p.1 ≠ x ∧ p.1 ≠ T) (nx : H x = none) (nT : H T = none) : Inv X pins σ H { s with heap := h' } := by
  obtain ⟨oe, vs, oT', ts, he, _, _, hd, _, _, hT, hdT, _⟩ := tr
  have inS : ∀ b, b ∈ frs X.stack → b = X.env.locals ∨ b ∈ X.fs := fun b hb => List.mem_cons.mp (I.stkSub b hb)
  have nxl : ∀ b o, X.s₀.heap.get? b = some o → b ≠ x ∧ some b ≠ some T := fun b o e => ⟨fun z => (by rw [z, ox] at e; cases e), fun z => (by cases z; rw [oT] at e; cases e)⟩
  have neL : ∀ b o, X.s₀.heap.get? b = some o → b ≠ X.env.locals := fun b o e => Nat.ne_of_lt (Nat.lt_of_lt_of_le (Heap.lt_size e) I.ok.above)
  have any : ∀ b o, (∀ vs, o.data ≠ .fields vs) → s.heap.get? b = some o → ∃ sl, h'.get? b = some { o with slots := sl } := fun b o hnf e => by
    by_cases hb : b ∈ frs X.stack
    · exact l.slot b o hb e
    · refine ⟨o.slots, l.keep b o hb (fun z => ?_) (fun z => ?_) e⟩
      · rw [z, he] at e; cases e; exact hnf _ hd
      · cases z; rw [hT] at e; cases e; exact hnf _ hdT
  have cellK : ∀ c v, s.heap.IsCell c v → h'.IsCell c v := fun c v ⟨o, ho, hdd⟩ => by
    obtain ⟨sl, e⟩ := any c o (fun vs z => by rw [hdd] at z; cases z) ho
    exact ⟨_, e, hdd⟩
  refine ⟨I.ok, I.os, I.bare, ⟨fun b o e n hb hx' => ?_, fun b o e n hb hx' => ?_, fun b o e n hx' => I.base.free b o e n hx', fun b o e hx' => ?_, I.base.tups, I.base.frzs, I.base.tbls⟩, ?_, fun y c e => ?_, I.free, I.freeC, fun p hp => ?_, fun b u q => ?_, I.len⟩
  · exact l.keep b o (fun z => (inS b z).elim (neL b o e) hb) (nxl b o e).1 (nxl b o e).2 (I.base.keep b o e n hb hx')
  · obtain ⟨sl, e1⟩ := I.base.slot b o e n hb hx'
    by_cases z : b ∈ frs X.stack
    · obtain ⟨sl2, e2⟩ := l.slot b _ z e1
      exact ⟨sl2, e2⟩
    · exact ⟨sl, l.keep b _ z (nxl b o e).1 (nxl b o e).2 e1⟩
  · obtain ⟨o', e1⟩ := I.base.there b o e hx'
    by_cases z : b ∈ frs X.stack
    · obtain ⟨sl2, e2⟩ := l.slot b _ z e1
      exact ⟨_, e2⟩
    · exact ⟨_, l.keep b _ z (nxl b o e).1 (nxl b o e).2 e1⟩
  · obtain ⟨m, ⟨o, es, ep, ho, hdd, r⟩, hv⟩ := I.loc
    obtain ⟨sl, e⟩ := any _ o (fun vs z => by rw [hdd] at z; cases z) ho
    refine ⟨m, ⟨_, es, ep, e, hdd, r⟩, fun i y v h1 h2 h3 => ?_⟩
    obtain ⟨u, ru, lk⟩ := hv i y v h1 h2 h3
    refine ⟨u, ru, ?_⟩
    rcases lk with z | ⟨z, c, e1, e2⟩
    · exact .inl z
    · exact .inr ⟨z, c, e1, cellK c _ e2⟩
  · obtain ⟨v, hv⟩ := I.cell y c e
    exact ⟨v, cellK c v hv⟩
  · obtain ⟨e, n, ne, nf, dd⟩ := I.pin p hp
    exact ⟨l.keep _ _ (fun z => (inS _ z).elim ne nf) (np p hp).1 (fun z => (np p hp).2 (Option.some.inj z)) e, n, ne, nf, dd⟩
  · refine (I.hok b u q).stay (fun c v hc e => ?_) (fun _ z => z) fun _ _ z => z
    have tc : ∃ v, H c = some v := by
      rcases hc with z | z
      · rw [z]; exact ⟨_, q⟩
      · exact ⟨_, z⟩
    obtain ⟨v', hv⟩ := tc
    refine l.keep c v (fun z => ?_) (fun z => ?_) (fun z => ?_) e
    · have := I.stkFree c z
      rw [hv] at this
      cases this
    · rw [z, nx] at hv
      cases hv
    · cases z
      rw [nT] at hv
      cases hv
def ExcAt (x : Addr) (C : Value) (d : Option Addr) (h : Heap) : Prop := ∃ o, h.get? x = some o ∧ o.cls = C ∧ o.dict = d ∧ ∃ vs, o.data = .fields vs
def Exc (x : Addr) (C : Value) (d : Option Addr) : HO := .ext (ExcAt x C d)
theorem inv_track {X : Cx} {pins : List (Addr × Obj)} {σ : St} {H : Hp} {s : Shared} {x T : Addr} {C : Value} {d : Option Addr} (I : Inv X pins σ H s) (tr : TrX s.heap x C d T) (ox : X.s₀.heap.get? x = none) (np : ∀ p ∈ X.pn ++ pins, p.1 ≠ x) (nx : H x = none) :
    Inv X pins σ (upd H x (Exc x C d)) s := by
  obtain ⟨oe, vs, oT', ts, he, hc, hdi, hd, _, _, hT, hdT, _⟩ := tr
  have nof : ∀ b o, s.heap.get? b = some o → (∀ vs, o.data ≠ .fields vs) → b ≠ x := fun b o e hnf z => by rw [z, he] at e; cases e; exact hnf _ hd
  refine ⟨I.ok, I.os, I.bare, ⟨I.base.keep, I.base.slot, fun b o e n hx' => ?_, I.base.there, fun b xs q => ?_, fun b o u q => ?_, fun b ps q => ?_⟩, I.loc, I.cell, ?_, fun y c e => ?_, fun p hp => ?_, fun b u q => ?_, I.len⟩
  · rw [upd_ne (fun z => by rw [z, ox] at e; cases e)]; exact I.base.free b o e n hx'
  · have := I.base.tups b xs q
    rw [upd_ne (fun z => by rw [z, nx] at this; cases this)]; exact this
  · have := I.base.frzs b o u q
    rw [upd_ne (fun z => by rw [z, nx] at this; cases this)]; exact this
  · obtain ⟨more, this⟩ := I.base.tbls b ps q
    exact ⟨more, by rw [upd_ne (fun z => by rw [z, nx] at this; cases this)]; exact this⟩
  · obtain ⟨m, ⟨o, es, ep, ho, hdd, r⟩, hv⟩ := I.loc
    rw [upd_ne (nof _ o ho fun vs z => by rw [hdd] at z; cases z)]
    exact I.free
  · obtain ⟨v, o, ho, hdd⟩ := I.cell y c e
    rw [upd_ne (nof _ o ho fun vs z => by rw [hdd] at z; cases z)]
    exact I.freeC y c e
  · obtain ⟨e, n, ne, nf, dd⟩ := I.pin p hp
    exact ⟨e, by rw [upd_ne (np p hp)]; exact n, ne, nf, dd⟩
  · by_cases z : b = x
    · subst z
      rw [upd_same] at q
      cases q
      exact ⟨⟨oe, he, hc, hdi, vs, hd⟩, ⟨oe, he⟩, fun h1 h2 ⟨o, e1, e2⟩ k => ⟨o, k o e1, e2⟩⟩
    · rw [upd_ne z] at q
      refine (I.hok b u q).stay (fun c v _ e => e) (fun c q' => ?_) fun c xs q' => ?_
      · rw [upd_ne (fun z => by rw [z, nx] at q'; cases q')]; exact q'
      · rw [upd_ne (fun z => by rw [z, nx] at q'; cases q')]; exact q'
theorem flight_ok {M : Model} {A : Around} {E : Value → Shared → Prop} {s : Shared} {Q : Unit → Shared → Prop} {x T : Addr} {C : Value} {d : Option Addr} (tr : TrX s.heap x C d T)
    (h : ∀ h', (∀ b, b ≠ T → h'.get? b = s.heap.get? b) → TrX h' x C d T → Q () { s with heap := h' }) : wpAny M A (setFlight (.ref x) none) Q E s := by
  obtain ⟨oe, vs, oT, ts, he, hc, hdi, hd, h1, hTe, hT, hdT, h3⟩ := tr
  unfold setFlight
  refine wpAny_bind (wpAny_field he hd h1 ?_)
  rw [if_pos (show (Value.ref T != Value.none) = true from by simp)]
  refine wpAny_setField hT hdT (Array.getElem?_eq_some_iff.mp h3).1 (h _ (fun b hb => Heap.get?_update_other _ _ (Ne.symm hb)) ?_)
  refine ⟨oe, vs, _, _, (Heap.get?_update_other _ _ hTe).trans he, hc, hdi, hd, h1, hTe, Heap.get?_update_self _ hT (Obj.isFreed_of_fields (Obj.data_mapFields hdT _)), Obj.data_mapFields hdT _, ?_⟩
  have := (Array.getElem?_eq_some_iff.mp h3).1
  simp [this]
def susp (X : Cx) (e : Addr) : Cx := { X with A := X.A.mark (some (.ref e)), calm := false, xe := fun _ _ => False }
theorem Inv.susp {X : Cx} {pins : List (Addr × Obj)} {σ : St} {H : Hp} {s : Shared} (I : Inv X pins σ H s) (e : Addr) : Inv (susp X e) pins σ H s :=
  have ok := I.ok
  ⟨⟨ok.mod, ok.kind, ok.glob, ok.blt, ok.above, ok.inj, ok.has, ok.cab, (fun z => by cases z), ok.frames, ok.stk, ok.exf, ok.bs, ok.bsz, ok.noex, ok.exfs, ok.funs, ok.frf⟩, I.os, I.bare, I.base, I.loc, I.cell, I.free, I.freeC, I.pin, I.hok, I.len⟩
theorem Inv.unsusp {X : Cx} {pins : List (Addr × Obj)} {σ : St} {H : Hp} {s : Shared} {e : Addr} (ok : X.Ok) (I : Inv (L2.susp X e) pins σ H s) : Inv X pins σ H s :=
  ⟨ok, I.os, I.bare, I.base, I.loc, I.cell, I.free, I.freeC, I.pin, I.hok, I.len⟩
theorem unbind_ok {X : Cx} {pins : List (Addr × Obj)} {σ : St} {H : Hp} {s : Shared} {M : Model} {A : Around} {E : Value → Shared → Prop} {i : Nat} {n : Str} {pos : Pos} {Q : Unit → Shared → Prop} (I : Inv X pins σ H s) (hN : X.N.Nodup) (hi : X.N[i]? = some n) (hl : X.env.kindOf n = some .local)
    (hloc : X.env.scope.names.lookup n = some .local) (h : ∀ s', Inv X pins (σ.set i none) H s' → Q () s') : wpAny M A (do bindName X.env n .none; unbindBehindTheSuite X.env n pos) Q E s := by
  refine wpAny_bind (wpAny_bindName (store_ok I hN hi (.inl hloc) (v := .non) (u := .none) rfl (fun s1 I1 => ?_) (.inr hloc)))
  obtain ⟨m, hn, hv⟩ := I1.loc
  have hil : i < σ.length := by
    rw [I.len]
    exact (List.getElem?_eq_some_iff.mp hi).1
  obtain ⟨u, ru, lk⟩ := hv i n .non hi (by rw [List.getElem?_set_self hil]) (.inl hloc)
  have hm : ∃ u, m n = some u := by
    rcases lk with ⟨_, z⟩ | ⟨z, _⟩
    · exact ⟨_, z⟩
    · rw [hl] at z
      rcases z with z | z <;> cases z
  obtain ⟨u, hm⟩ := hm
  unfold unbindBehindTheSuite
  refine wpAny_onRaise ?_
  refine wpAny_unbindName_local hl hn hm (by rw [I.ok.kind]; rfl) fun h' u' hn' hs => h _ ?_
  have hL := hn
  obtain ⟨oL, esL, epL, hoL, hdL, _⟩ := hL
  obtain ⟨oL', esL', epL', hoL', hdL', _⟩ := id hn'
  have neL : ∀ b o, X.s₀.heap.get? b = some o → b ≠ X.env.locals := fun b o e => Nat.ne_of_lt (Nat.lt_of_lt_of_le (Heap.lt_size e) I.ok.above)
  have cellK : ∀ c v, s1.heap.IsCell c v → h'.IsCell c v := fun c v ⟨o, ho, hdd⟩ => by
    refine ⟨o, (hs.2 c fun z => ?_).trans ho, hdd⟩
    rw [z, hoL] at ho
    cases ho
    rw [hdL] at hdd
    cases hdd
  refine ⟨I1.ok, I1.os, I1.bare, ⟨fun b o e n hb hx' => (hs.2 b (neL b o e)).trans (I1.base.keep b o e n hb hx'), fun b o e n hb hx' => ?_, fun b o e n hx' => I1.base.free b o e n hx', fun b o e hx' => ?_, I1.base.tups, I1.base.frzs, I1.base.tbls⟩, ⟨_, hn', fun j y v h1 h2 h3 => ?_⟩, fun y c e => ?_, I1.free, I1.freeC, fun p hp => ?_, fun b u q => ?_, ?_⟩
  · obtain ⟨sl, e1⟩ := I1.base.slot b o e n hb hx'
    exact ⟨sl, (hs.2 b (neL b o e)).trans e1⟩
  · obtain ⟨o', e1⟩ := I1.base.there b o e hx'
    exact ⟨o', (hs.2 b (neL b o e)).trans e1⟩
  · have hji : j ≠ i := fun z => by
      subst z
      rw [List.getElem?_set_self hil] at h2
      cases h2
    have hyn : y ≠ n := fun z => by
      subst z
      obtain ⟨a1, a2⟩ := List.getElem?_eq_some_iff.mp h1
      obtain ⟨b1, b2⟩ := List.getElem?_eq_some_iff.mp hi
      exact hji ((List.getElem_inj hN).mp (a2.trans b2.symm))
    rw [List.getElem?_set_ne (Ne.symm hji)] at h2
    obtain ⟨u2, ru2, lk2⟩ := hv j y v h1 (by rw [List.getElem?_set_ne (Ne.symm hji)]; exact h2) h3
    refine ⟨u2, ru2, ?_⟩
    rcases lk2 with ⟨z1, z2⟩ | ⟨z, c, e1, e2⟩
    · exact .inl ⟨z1, by show (if y = n then u' else m y) = _; rw [if_neg hyn]; exact z2⟩
    · exact .inr ⟨z, c, e1, cellK c _ e2⟩
  · obtain ⟨v, hv⟩ := I1.cell y c e
    exact ⟨v, cellK c v hv⟩
  · obtain ⟨e, n, ne, nf, dd⟩ := I1.pin p hp
    exact ⟨(hs.2 _ ne).trans e, n, ne, nf, dd⟩
  · refine (I1.hok b u q).stay (fun c v hc e => ?_) (fun _ z => z) fun _ _ z => z
    have tc : ∃ v, H c = some v := by
      rcases hc with z | z
      · rw [z]; exact ⟨_, q⟩
      · exact ⟨_, z⟩
    obtain ⟨v', hv'⟩ := tc
    refine (hs.2 c fun z => ?_).trans e
    rw [z, I1.free] at hv'
    cases hv'
  · rw [List.length_set]; exact I.len
end L2
set_option Elab.async false
set_option linter.all false
set_option maxRecDepth 100000
set_option maxHeartbeats 1000000
namespace L2
open PySem PySem.Spec PyProof.Rows
abbrev TSX := Ends → XK → St → Hp → Prop
def PSx (X : Cx) (st : List Stmt) (t : TSX) : Prop :=
  ∀ (pins : List (Addr × Obj)) (s : Shared) (σ : St) (H : Hp) (D : Ends) (E : XK), Inv X pins σ H s → t D E σ H → wpAny (model X.prog X.w) X.A (execs st X.env) (SP X pins D) (XP X pins σ E) s
def xDrop (te : TX) : TSX := fun D E σ H => te σ H (fun _ H' => D.nx σ H') E
theorem psx_expr {X : Cx} {e : Expr} {te : TX} {pos : Pos} (he : PEx X e te) (hs : swapsWith e none pos.line X.env = pure false := by rfl) : PSx X [.Expr e pos] (xDrop te) := by
  intro pins s σ H D E I h
  refine wpAny_execs_cons (wpAny_Expr_any (thn (he pins s σ H _ E I h) fun v s1 ⟨x, H1, I1, r1, q1⟩ => ?_) I.quiet hs)
  exact wpAny_execs_nil ⟨σ, H1, I1, q1⟩
def subIn (K : PySem.W.Frag) (c B : Addr) : Bool := match K.lookup c with
  | some ⟨_, _, .cls cd, _⟩ => cd.mro.contains (.ref B)
  | _ => false
theorem sub_of {K : PySem.W.Frag} {h : Heap} {c B : Addr} {nm q : Str} {N : Addr} {bs bm : List Value} {hdct : Bool} {sn : List Str} {sub : List Value} {ab : Bool} {col : Option Bool} {dd : Option Addr} {k0 k1 k2 k3 k5 : Option Value} {newId : String}
    (X : K.In h) (hC : h.get? c = some (excClassObj nm q c N bs bm hdct sn sub ab col dd k0 k1 k2 k3 k5 newId)) (e : subIn K c B = true) : (Value.ref c :: bm).contains (.ref B) = true := by
  unfold subIn at e
  split at e
  · rename_i ho
    have := X _ _ ho
    rw [hC] at this
    cases this
    exact e
  · cases e
def hEnds (D : Ends) (i : Nat) : Ends := { nx := fun σ H => D.nx (σ.set i none) H, rt := D.rt, bk := fun σ H => D.bk (σ.set i none) H, ct := fun σ H => D.ct (σ.set i none) H }
def tTryAs (K : PySem.W.Frag) (tb : TSX) (B : Addr) (i : Nat) (th : TS) : TS := fun D σ H =>
  tb D (fun C d H' => ∃ c bmB newId, C = .ref c ∧ PySem.W.excIn K c bmB newId = true ∧ subIn K c B = true ∧ ∀ x, H' x = none → th (hEnds D i) (σ.set i (some (.ref x))) (upd H' x (Exc x C d))) σ H
theorem ps_tryAs {X : Cx} {body : List Stmt} {tb : TSX} {xB n : Str} {B : Addr} {bmB : List Value} {newId : String} {i : Nat} {b₀ : Stmt} {suite : List Stmt} {th : TS} {np hpos pos : Pos} (hb : PSx X body tb) (hB : PySem.W.excIn X.K B bmB newId = true) (hbB : bmB.contains (.type "BaseException") = true)
    (hg : Gl X xB) (hm : X.mg xB = some (.ref B)) (hN : X.N.Nodup) (hi : X.N[i]? = some n) (hl : X.env.kindOf n = some .local) (hloc : X.env.scope.names.lookup n = some .local) (hst : X.stack = X.env :: X.outer) {L : Addr} (hf : X.env.frame = some L)
    (hs : ∀ e, PSs (susp X e) (b₀ :: suite) th) (hd : (xB == ("__debug__" : Str)) = false := by decide) :
    PS X (.Try body [.ExceptHandler (some (.Name xB np)) (some n) (b₀ :: suite) hpos] [] [] pos) (tTryAs X.K tb B i th) := by
  intro pins s σ H D I h
  refine wpAny_Try_except (wpAny_mono (hb pins s σ H D _ I h) (fun f s1 q => ?_) fun e s1 q => ?_)
  · cases f with
    | next => exact wpAny_execs_nil q
    | ret v => exact q
    | brk => exact q
    | cont => exact q
  obtain ⟨x, T, C, d, H', rfl, I1, tr, ⟨ox, oT⟩, np', nx, nT, c, bmC, newC, rfl, hC0, hsub, hE⟩ := q
  have hfr : X.A.frames = some (X.env :: X.outer) := by rw [I1.ok.frames, hst]
  have hfun : s1.heap.FunFrames X.base (X.env :: X.outer) := by rw [← hst]; exact I1.stack
  refine lv_nextN hfr hfun hf tr fun h' l => ?_
  have hfrs : (X.env :: X.outer).filterMap (·.frame) = frs X.stack := by rw [hst]; rfl
  rw [hfrs] at l
  have I2 := inv_noted I1 tr l.k ox oT np' nx nT
  have tr2 := l.exc
  have oT2 : X.s₀.heap.get? s1.heap.objs.size = none := Heap.get?_none_of_le I1.sz
  have nT2 : H' s1.heap.objs.size = none := I1.hok.fresh (Nat.le_refl _)
  have np2 : ∀ p ∈ X.pn ++ pins, p.1 ≠ x ∧ p.1 ≠ s1.heap.objs.size := fun p hp => ⟨(np' p hp).1, Nat.ne_of_lt (Heap.lt_size (I1.pin p hp).1)⟩
  refine wpAny_handleBy_cons (codeAny_handlers_test (ld_glob (X := susp X x) (I2.susp x) hg hm ?_ hd)) (by intro q; cases q)
  obtain ⟨bm, N, nm, q, bs, hdct, sn, sub, ab, col, dd, k0, k1, k2, k3, k5, mN, hC, _, _, _⟩ := exc_obj I2.kIn hC0
  obtain ⟨bm', N', nm', q', bs', hdct', sn', sub', ab', col', dd', k0', k1', k2', k3', k5', mN', hBo, _, _, TB⟩ := exc_obj I2.kIn hB
  obtain ⟨oe, vs, oT', ts, he, hcls, _, hdd, _, hTe, hTo, hdT, _⟩ := id tr2
  refine exc_match hC hBo he hcls (TB.hasType hbB) ?_
  rw [sub_of I2.kIn hC hsub]
  show codeAny _ _ _ _ _
  refine codeAny_handlers_suite_as (flight_ok tr2 fun h3 k3 tr3 => ?_)
  have I3 : Inv X pins σ H' { s1 with heap := h3 } := by
    refine inv_noted (s := { s1 with heap := h' }) (h' := h3) I2 tr2 ⟨fun b o _ _ hbT e => (k3 b fun z => hbT (by rw [z])).trans e, fun b o hbf e => ⟨o.slots, (k3 b fun z => ?_).trans e⟩⟩ ox oT2 np2 nx nT2
    subst z
    obtain ⟨_, o', ho', hnf⟩ := I2.stack.mem hbf
    rw [hTo] at ho'
    cases ho'
    exact hnf _ hdT
  have I4 := inv_track I3 tr3 ox (fun p hp => (np' p hp).1) nx
  refine store_ok (X := X) I4 hN hi (.inl hloc) (v := .ref x) (u := .ref x) rfl (fun s4 I5 => ?_) (.inr hloc)
  refine wpAny_mono (hs x pins s4 _ _ (hEnds D i) (I5.susp x) (hE x nx)) (fun f s5 q => ?_) fun _ _ z => False.elim z
  show wpAny _ _ _ _ _ _
  have ok := I.ok
  cases f with
  | next =>
    obtain ⟨σ', H2, I6, q⟩ := q
    exact unbind_ok (I6.unsusp ok) hN hi hl hloc fun s7 I7 => ⟨_, _, I7, q⟩
  | brk =>
    obtain ⟨σ', H2, I6, q⟩ := q
    exact unbind_ok (I6.unsusp ok) hN hi hl hloc fun s7 I7 => ⟨_, _, I7, q⟩
  | cont =>
    obtain ⟨σ', H2, I6, q⟩ := q
    exact unbind_ok (I6.unsusp ok) hN hi hl hloc fun s7 I7 => ⟨_, _, I7, q⟩
  | ret u =>
    obtain ⟨v, σ', H2, I6, r, q⟩ := q
    exact unbind_ok (I6.unsusp ok) hN hi hl hloc fun s7 I7 => ⟨_, _, _, I7, r, q⟩
end L2
set_option Elab.async false
set_option linter.all false
set_option maxRecDepth 100000
set_option maxHeartbeats 1000000
namespace L2
open PySem PySem.Spec PyProof.Rows
section
variable {prog : Program} {w : World} {A : Around} {E : Value → Shared → Prop} {s : Shared} {K : PySem.W.Frag} {x D : Addr} {o : Obj}
theorem exc_class {Q : Option Value → Shared → Prop} (X : K.In s.heap) (I : PySem.W.InstAt s.heap x o D none) (hga : PySem.W.findIn K (.ref D) "__getattribute__" = some (some (.builtin "BaseException.__getattribute__"))) (hgt : PySem.W.findIn K (.ref D) "__getattr__" = some none)
    (hf : PySem.W.findIn K (.ref D) "__class__" = some (some (.builtin "object.__class__"))) (hm : PySem.W.mroIn K D (.type "object") = some true) (hB : PySem.W.subIn K (.ref D) (.type "BaseException") = some true) (h : Q (some (.ref D)) { s with toks := s.toks + 1 }) : wpAny (model prog w) A (getAttr? (.ref x) "__class__") Q E s := by
  obtain ⟨hh, g, d, t, os⟩ := s
  have L0 := I.type (M := model prog w)
  have L1 := PySem.W.looks_findIn (M := model prog w) X hga
  have L2 := PySem.W.looks_findIn (M := model prog w) X hgt
  have L3 := PySem.W.looks_findIn (M := model prog w) X hf
  unfold getAttr? getAttrBy? getAttrBy
  refine wpAny_bind (wpAny_mkText (wpAny_bind (wpAny_attempt (wpAny_holding (wpAny_bind (L0.at (wpAny_bind (L1.at ?_))))))))
  show wpAny _ _ (getAttrByItsOwn _ _ _ _ _ _) _ _ _
  unfold getAttrByItsOwn hookBefore
  have hx0 : (false && onTheHeap (Value.builtin "BaseException.__getattribute__")) = false := rfl
  have f3 := PySem.F.attr_ValueError.ga.bind (.ref x)
  repeat (any_goals (first | assumption | with_reducible refine L2.at ?_ | with_reducible refine L0.at ?_ | wp_step))
  have LB := PySem.W.looks_subIn (M := model prog w) X hB
  have hk : builtinKind "BaseException.__getattribute__" = some .slot := by decide +kernel
  have hsplit : splitId "BaseException.__getattribute__" = some ("BaseException", "__getattribute__") := by decide +kernel
  have ha := PySem.F.args_bexc_ga (.ref x) (Value.str (Str.ofString "__class__") t)
  refine codeAny_call_builtin PySem.F.attr_ValueError.ga.plain PySem.F.entry_bexc_ga ?_
  show wpAny _ _ (checkBuiltinCall "BaseException.__getattribute__" ⟨[.ref x, Value.str (Str.ofString "__class__") t], []⟩) _ _ _
  simp only [checkBuiltinCall, hk, hsplit]
  refine wpAny_bind ?_
  unfold isInstance
  have f5 := PySem.F.typeOf_object_class
  have f6 := PySem.F.slot_gs_get.lookup
  have f7 := PySem.F.slot_gs_set.lookup
  repeat (any_goals (first | assumption | with_reducible refine L0.at ?_ | with_reducible refine LB.at ?_ | with_reducible refine L3.at ?_ | wp_step))
  refine PySem.W.class_get (s := ⟨hh, g, d, t + 1, os⟩) (ox := o) (od := none) X I hm ?_
  refine wpAny_pure ?_
  refine PySem.W.handed_on rfl ?_
  exact wpAny_pure h
end
def excK (K : PySem.W.Frag) (D : Addr) : Bool := PySem.W.findIn K (.ref D) "__getattribute__" == some (some (.builtin "BaseException.__getattribute__")) && PySem.W.findIn K (.ref D) "__getattr__" == some none && (PySem.W.clsIn K D).isSome &&
  PySem.W.findIn K (.ref D) "__class__" == some (some (.builtin "object.__class__")) && PySem.W.mroIn K D (.type "object") == some true && PySem.W.subIn K (.ref D) (.type "BaseException") == some true
theorem kitx_exc {K : PySem.W.Frag} {x D : Addr} (hk : excK K D = true) : PySem.W.KitX K (.ref x) (.ref D) (ExcAt x (.ref D) none) := by
  unfold excK at hk
  simp only [Bool.and_eq_true, beq_iff_eq] at hk
  obtain ⟨⟨⟨⟨⟨hga, hgt⟩, hc⟩, ha⟩, hm⟩, hB⟩ := hk
  have inst : ∀ {h : Heap}, ExcAt x (.ref D) none h → ∃ o, PySem.W.InstAt h x o D none := fun {h} ⟨o, e, c, dd, vs, hd⟩ => by
    refine ⟨o, e, c, ?_, ?_⟩
    · unfold PySem.W.notCls; rw [hd]
    · rw [dd]; trivial
  have cls : ∃ c d cd sl, K.lookup D = some ⟨c, d, .cls cd, sl⟩ := by
    unfold PySem.W.clsIn at hc
    split at hc
    · rename_i ho
      exact ⟨_, _, _, _, ho⟩
    · cases hc
  obtain ⟨c', d', cd', sl', ho⟩ := cls
  refine ⟨fun M h X p => ?_, fun M h X p => ?_, fun h tp dd its n sl X htp => ?_, fun {prog w A E Q s} X p k => ?_⟩
  · obtain ⟨o, I⟩ := inst p
    exact I.type
  · intro A' Q' E' s' k q
    unfold isType loadHead
    exact wpAny_bind (wpAny_loadPart (k _ _ (X _ _ ho)) (wpAny_pure q))
  · refine Bool.eq_false_iff.mpr fun q => ?_
    have e : D = tp := Value.ref.inj (beq_iff_eq.mp q)
    subst e
    have z := (X _ _ ho).symm.trans htp
    cases z
  · obtain ⟨o, I⟩ := inst p
    exact exc_class X I hga hgt ha hm hB k
def rIsX (K : PySem.W.Frag) : List V → Hp → VK → Prop := fun xs H Q => ∃ (x C : Addr) (c : V) (b : Bool), xs = [.ref x, c] ∧ H x = some (Exc x (.ref C) none) ∧ excK K C = true ∧
  ((∃ B, c = .ref B ∧ PySem.W.kitOne K (.ref C) (.ref B) = some b) ∨ (∃ T, c = .ty T ∧ PySem.W.kitOne K (.ref C) (.type T) = some b) ∨ (∃ (tp : Addr) (cs : List Addr), c = .ref tp ∧ H tp = some (.tup (cs.map V.ref)) ∧ PySem.W.kitAny K (.ref C) (cs.map Value.ref) = some b)) ∧ Q (.bl b) H
theorem vals_addrs : ∀ {cs : List Addr} {its : List Value}, Vals (cs.map V.ref) its → its = cs.map Value.ref
  | [], its, r => by cases r; rfl
  | c :: cs, its, r => by
    cases r with
    | cons a b =>
      cases a
      rw [vals_addrs b]
      rfl
theorem call_isX {X : Cx} : CallR X (.builtin "isinstance") (rIsX X.K) := by
  intro pins s σ H xs us Q I r h
  obtain ⟨x, C, c, b, rfl, hx, hk, alt, q⟩ := h
  obtain ⟨u1, u2, rfl, r1, r2⟩ := Vals.two r
  cases (show u1 = Value.ref x from r1)
  have p : ExcAt x (.ref C) none s.heap := (I.hok x _ hx).1
  rcases alt with ⟨B, rfl, e⟩ | ⟨T, rfl, e⟩ | ⟨tp, cs, rfl, htp, e⟩
  · cases (show u2 = Value.ref B from r2)
    exact PySem.W.kia_one (kitx_exc hk) I.kIn p e (fun z => nomatch z) fun tk => ⟨.bl b, H, I.tok _, rfl, q⟩
  · cases (show u2 = Value.type T from r2)
    exact PySem.W.kia_one (kitx_exc hk) I.kIn p e (fun z => nomatch z) fun tk => ⟨.bl b, H, I.tok _, rfl, q⟩
  · cases (show u2 = Value.ref tp from r2)
    obtain ⟨_, its, rv, ob, hob, hcls, nn, hdat⟩ := (show ObjOk X.prog X.w H s.heap tp (.tup (cs.map V.ref)) from I.hok tp _ htp)
    rw [vals_addrs rv] at hdat
    obtain ⟨oc, od, dt, sl⟩ := ob
    cases hcls
    cases hdat
    exact PySem.W.kia_tup (kitx_exc hk) I.kIn p hob e (fun z => nomatch z) fun tk => ⟨.bl b, H, I.tok _, rfl, q⟩
end L2
set_option Elab.async false
set_option linter.all false
set_option maxRecDepth 100000
set_option maxHeartbeats 1000000
namespace L2
open PySem PySem.Spec PyProof.Rows
theorem bo_ValueError : bootBuiltins "ValueError" = some (.type "ValueError") := by decide +kernel
theorem CalX.cal {P : Program} {w : World} {K : PySem.W.Frag} {mg : Str → Option Value} {base : Heap} {k : Nat} {x : Str} {ps : List Str} {sp : Sp} (C : CalX P w K mg base k x ps sp) : Cal P w K mg base k x ps (fun vs H Q _ => sp vs H Q E0) := by
  obtain ⟨f, fd, F, b, c, d⟩ := C.ex
  refine ⟨f, fd, ⟨fun vs H Q E h => F.len vs H Q E0 h, fun A outer s H args us vs Q E hr e0 hb r h => codeAny_mono (F.run A outer s H args us vs Q E0 hr e0 hb r h) fun r s' q => ?_⟩, b, c, d⟩
  cases r with
  | error e =>
    obtain ⟨_, _, _, _, _, _, _, _, _, _, _, _, _, _, _, z⟩ := q
    exact z.elim
  | ok fl =>
    cases fl with
    | ret u => exact q
    | next => exact q
    | brk => exact q
    | cont => exact q
theorem PS.nox {X : Cx} {st : Stmt} {t : TS} (h : PS X.nox st t) : PS X st t := fun pins s σ H D I hw =>
  wpAny_mono (h pins s σ H D (I.wish _) hw) (fun _ _ q => q.unwish) fun _ _ z => False.elim z
end L2
set_option Elab.async false
set_option linter.all false
set_option maxRecDepth 100000
set_option maxHeartbeats 1000000
namespace L2
open PySem PySem.Spec
end L2
set_option Elab.async false
set_option linter.all false
set_option maxRecDepth 100000
set_option maxHeartbeats 1000000
namespace L2
open PySem PySem.Spec
end L2
set_option Elab.async false
set_option linter.all false
set_option maxRecDepth 100000
set_option maxHeartbeats 1000000
namespace L2
open PySem PySem.Spec
end L2
set_option Elab.async false
set_option linter.all false
set_option maxRecDepth 100000
set_option maxHeartbeats 1000000
namespace L2
open PySem PySem.Spec
end L2
set_option Elab.async false
set_option linter.all false
set_option maxRecDepth 100000
set_option maxHeartbeats 1000000
namespace L2
open PySem PySem.Spec
end L2
set_option Elab.async false
set_option linter.all false
set_option maxRecDepth 100000
set_option maxHeartbeats 1000000
namespace L2
open PySem PySem.Spec PyProof PyProof.Rows
section
variable {P : Program} {w : World} {A : Around} {E : Value → Shared → Prop} {s : Shared}
end
section
variable {X : Cx}
end
end L2
set_option Elab.async false
set_option linter.all false
set_option maxRecDepth 100000
set_option maxHeartbeats 1000000
namespace L2
open PySem PySem.Spec
section
variable {K : PySem.W.Frag} {σ : St} {H : Hp} {D : Ends} {g : TG} {tb : TS} {a b : Addr}
end
section
variable {K : PySem.W.Frag} {σ : St} {H : Hp} {Q : VK} {cs : List Nat} {te : TE}
end
end L2
set_option Elab.async false
set_option linter.all false
set_option maxRecDepth 100000
set_option maxHeartbeats 1000000
namespace L2
open PySem PySem.Spec
section
variable {g : Int → Int → Int → Int → Int} {z : Int}
end
section
variable {g : Int → Int → Int → Int → Int} {z : Int}
end
end L2
set_option Elab.async false
set_option linter.all false
set_option maxRecDepth 100000
set_option maxHeartbeats 1000000
namespace L2
open PySem PySem.Spec
end L2
set_option Elab.async false
set_option linter.all false
set_option maxRecDepth 100000
set_option maxHeartbeats 1000000
namespace L2
open PySem PySem.Spec
section
variable {K : PySem.W.Frag} {σ : St} {H : Hp} {Q : VK} {cs : List Nat} {te : TE}
end
end L2
set_option Elab.async false
set_option linter.all false
set_option maxRecDepth 100000
set_option maxHeartbeats 1000000
namespace L2
open PySem PySem.Spec PyProof.Rows
section
variable {prog : Program} {w : World} {A : Around} {E : Value → Shared → Prop} {s : Shared}
end
section
variable {prog : Program} {w : World} {A : Around} {E : Value → Shared → Prop} {s : Shared}
end
section
variable {K : PySem.W.Frag} {σ : St} {H : Hp} {D : Ends} {g : TG} {tb : TS} {a b c : Addr}
end
end L2
set_option Elab.async false
set_option linter.all false
set_option maxRecDepth 100000
set_option maxHeartbeats 1000000
namespace L2
open PySem PySem.Spec
end L2
set_option Elab.async false
set_option linter.all false
set_option maxRecDepth 100000
set_option maxHeartbeats 1000000
namespace L2
open PySem PySem.Spec PyProof PyProof.Rows
section
variable {prog : Program} {w : World} {A : Around} {E : Value → Shared → Prop} {s : Shared}
end
section
variable {prog : Program} {w : World} {A : Around} {E : Value → Shared → Prop} {s : Shared}
end
section
variable {K : PySem.W.Frag} {σ : St} {H : Hp} {Q : VK} {cs : List Nat} {te : TE}
end
section
variable {X : Cx}
end
end L2
set_option Elab.async false
set_option linter.all false
set_option maxRecDepth 100000
set_option maxHeartbeats 1000000
namespace L2
open PySem PySem.Spec
def Lies (w x : Int) : Prop := -(2 ^ (w - 1).toNat) ≤ x ∧ x < 2 ^ (w - 1).toNat
instance (w x : Int) : Decidable (Lies w x) := by unfold Lies; infer_instance
end L2
set_option Elab.async false
set_option linter.all false
set_option maxRecDepth 100000
set_option maxHeartbeats 1000000
namespace L2
open PySem PySem.Spec
end L2
set_option Elab.async false
set_option linter.all false
set_option maxRecDepth 100000
set_option maxHeartbeats 1000000
namespace L2
open PySem PySem.Spec
def LL (H : Hp) (l : Addr) (cs : List (List Int)) : Prop := ∃ vs, H l = some (.lst vs) ∧ vs.length = cs.length ∧ ∀ (i : Nat) (c : List Int), cs[i]? = some c → ∃ p, vs[i]? = some (.ref p) ∧ p ≠ l ∧ H p = some (.lst (c.map V.int))
end L2
set_option Elab.async false
set_option linter.all false
set_option maxRecDepth 100000
set_option maxHeartbeats 1000000
namespace L2
open PySem PySem.Spec
theorem seq_in {t u : TS} {D : Ends} {σ : St} {H : Hp} (h : ∀ R : TS, R = u → tSeq t R D σ H) : tSeq t u D σ H := h u rfl
theorem seq_inG {g : TG} {x : V} {t u : TS} {D : Ends} {σ : St} {H : Hp} (h : ∀ R : TS, R = u → g x σ H fun σ2 H2 => tSeq t R D σ2 H2) : g x σ H fun σ2 H2 => tSeq t u D σ2 H2 := h u rfl
theorem seq_out {R u : TS} {D : Ends} {σ : St} {H : Hp} (e : R = u) (h : u D σ H) : R D σ H := by rw [e]; exact h
end L2
set_option Elab.async false
set_option linter.all false
set_option maxRecDepth 100000
set_option maxHeartbeats 1000000
namespace L2
open PySem PySem.Spec
section
variable {K : PySem.W.Frag} {σ : St} {H : Hp} {Q : VK} {cs : List Nat} {te : TE}
theorem comp_LL {l : Addr} {rs : List (List Int)} (h : LL H l rs) (hz : rs.length ≤ 1000) (f : List Int → List Int)
    (hb : ∀ (p : Addr) r H' (R : VK), r ∈ rs → H' p = some (.lst (r.map V.int)) → Same H H' → (∀ q H5, H' q = none → Same H' H5 → H5 q = some (.lst ((f r).map V.int)) → R (.ref q) H5) → te (some (.ref p) :: capV cs σ) H' R)
    (hd : ∀ acc H', H acc = none → Same H H' → LL H' acc (rs.map f) → Q (.ref acc) H') : CompIt (Itl K l) 1 cs (gName 0) tYes te σ H Q := by
  obtain ⟨vs, hl, vl, hv⟩ := h
  refine comp_any rs.length (fun acc i ws H' => Same H H' ∧ H acc = none ∧ H' acc = some (.lst ws) ∧ ws.length = i ∧ ∀ (j : Nat) (c : List Int), j < i → (rs.map f)[j]? = some c → ∃ p, ws[j]? = some (.ref p) ∧ p ≠ acc ∧ H' p = some (.lst (c.map V.int))) (le_size hz) ?_ ?_ ?_ ?_ ?_ ?_
  · rintro acc i ws H' hi ⟨s, _⟩
    exact ⟨vs, vs[i]'(by omega), SqL.of (s _ _ hl), List.getElem?_eq_getElem _⟩
  · rintro acc ws H' ⟨s, _⟩
    exact ⟨vs, SqL.of (s _ _ hl), by omega⟩
  · intro acc ha
    exact ⟨same_new ha _, ha, upd_same, rfl, fun j c hj => by omega⟩
  · rintro acc i ws H' ⟨s, _, ha, hw, _⟩
    exact ⟨ha, by omega⟩
  · rintro acc i ws H' ts v H2 N hn hi ⟨s, hn', ha, hw, ht⟩ ⟨rfl, hx0⟩ hts hN
    have hx := hx0 vs (SqL.of (s _ _ hl))
    have e1 : rs[i]? = some rs[i] := List.getElem?_eq_getElem hi
    obtain ⟨p, h1, h2, h3⟩ := hv i _ e1
    have hm : rs[i] ∈ rs := List.getElem_mem hi
    generalize rs[i] = r at e1 h3 hm
    rw [h1] at hx
    cases hx
    obtain ⟨t0, rfl⟩ : ∃ t0, ts = [t0] := by
      match ts, hts with
      | [a], _ => exact ⟨a, rfl⟩
    rw [w_gName, w_yes, if_pos rfl]
    refine hb p r H2 _ hm (s _ _ h3) s fun q H5 nq s5 hq => ?_
    have ha5 := s5 _ _ ha
    have qa : q ≠ acc := (ne_of_none ha nq).symm
    refine ⟨ha5, hN _ [some (V.ref p)] _ rfl ⟨same_upd hn (s.trans s5), hn', upd_same, by rw [List.length_append, hw]; rfl, fun j c hj hc => ?_⟩⟩
    by_cases z : j < i
    · obtain ⟨p', b1, b2, b3⟩ := ht j c z hc
      exact ⟨p', by rw [List.getElem?_append_left (by omega)]; exact b1, b2, by rw [upd_ne b2]; exact s5 _ _ b3⟩
    · have ej : j = i := by omega
      subst ej
      rw [List.getElem?_map, e1] at hc
      cases hc
      exact ⟨q, by rw [List.getElem?_append_right (by omega), show j - ws.length = 0 by omega]; rfl, qa, by rw [upd_ne qa]; exact hq⟩
  · rintro acc ws H' hn ⟨s, _, ha, hw, ht⟩
    refine hd acc H' hn s ⟨ws, ha, by rw [List.length_map]; exact hw, fun j c hc => ?_⟩
    exact ht j c (by have := (List.getElem?_eq_some_iff.mp hc).1; rwa [List.length_map] at this) hc
end
end L2
set_option Elab.async false
set_option linter.all false
set_option maxRecDepth 100000
set_option maxHeartbeats 1000000
namespace L2
open PySem PySem.Spec
section
variable {K : PySem.W.Frag} {σ : St} {H : Hp} {Q : VK} {cs : List Nat} {te : TE}
end
end L2
set_option Elab.async false
set_option linter.all false
set_option maxRecDepth 100000
set_option maxHeartbeats 1000000
namespace L2
open PySem PySem.Spec PyProof.Rows
end L2
set_option Elab.async false
set_option linter.all false
set_option maxRecDepth 100000
set_option maxHeartbeats 1000000
namespace L2
open PySem PySem.Spec PyProof.Rows
section
variable {H H' : Hp} {x dl gl : Addr} {ins : Nat} {us : List V} {ds : List Wd} {os : List V} {gs : List Go}
end
section
variable {α : Type} {f : α → List V} {H0 H H' : Hp} {p dl : Addr} {us : List V} {ds : List α}
end
section
variable {H : Hp} {w : Str} {a b d1 g1 d2 g2 : Addr} {i1 i2 : Nat} {u1 u2 : List V} {s1 s2 : List Wd} {o1 o2 : List V} {t1 t2 : List Go} {Q : VK} {E : XK}
end
end L2
set_option Elab.async false
set_option linter.all false
set_option maxRecDepth 100000
set_option maxHeartbeats 1000000
namespace L2
open PySem PySem.Spec PyProof.Rows
section
variable {I ins l m : Nat} {f : Nat → Nat} {ds0 ds : List Wd} {gs0 gs : List Go}
end
end L2
set_option Elab.async false
set_option linter.all false
set_option maxRecDepth 100000
set_option maxHeartbeats 1000000
namespace L2
open PySem PySem.Spec PyProof.Rows
section
variable {α : Type} {K : PySem.W.Frag} {f : α → List V} {H H' : Hp} {vs us : List V} {xs : List α} {l : Addr}
end
end L2
set_option Elab.async false
set_option linter.all false
set_option maxRecDepth 100000
set_option maxHeartbeats 1000000
namespace L2
open PySem PySem.Spec PyProof.Rows
section
variable {X : Cx}
end
section
variable {K : PySem.W.Frag} {σ : St} {H : Hp} {Q : VK} {cs : List Nat} {te : TE}
end
end L2
set_option Elab.async false
set_option linter.all false
set_option maxRecDepth 100000
set_option maxHeartbeats 1000000
namespace L2
open PySem PySem.Spec PyProof.Rows
section
variable {c : Bool} {i1 i2 : Nat} {s1 s2 : List Wd} {t1 t2 : List Go}
end
section
variable {K : PySem.W.Frag} {σ : St} {H : Hp} {Q : VK} {cs : List Nat} {te : TE}
end
end L2
set_option Elab.async false
set_option linter.all false
set_option maxRecDepth 100000
set_option maxHeartbeats 1000000
namespace L2
open PySem PySem.Spec PyProof.Rows
end L2
set_option Elab.async false
set_option linter.all false
set_option maxRecDepth 100000
set_option maxHeartbeats 1000000
namespace L2
open PySem PySem.Spec PyProof.Rows
section
variable {prog : Program} {w : World} {A : Around} {E : Value → Shared → Prop} {s : Shared}
end
end L2
set_option Elab.async false
set_option linter.all false
set_option maxRecDepth 100000
set_option maxHeartbeats 1000000
namespace L2
open PySem PySem.Spec PyProof.Rows
section
variable {prog : Program} {w : World} {A : Around} {E : Value → Shared → Prop} {s : Shared}
end
section
variable {prog : Program} {w : World} {A : Around} {R : Result → Shared → Prop} {I : Addr} {fp wr : List Addr} {G : Array GenState → Array GenState → Prop} {P : Nat → Value → Prop} {St : Nat → Shared → Prop}
end
section
variable {prog : Program} {w : World} {A : Around} {E : Value → Shared → Prop} {s : Shared}
end
end L2
set_option Elab.async false
set_option linter.all false
set_option maxRecDepth 100000
set_option maxHeartbeats 1000000
namespace L2
open PySem PySem.Spec PyProof.Rows
section
variable {prog : Program} {w : World} {A : Around} {E : Value → Shared → Prop} {s : Shared} {it S : Addr} {f : Value} {i n ep : Nat} {es : Array (Int × Value)} {t : SetTable}
end
end L2
set_option Elab.async false
set_option linter.all false
set_option maxRecDepth 100000
set_option maxHeartbeats 1000000
namespace L2
open PySem PySem.Spec PyProof.Rows
section
variable {prog : Program} {w : World} {A : Around} {E : Value → Shared → Prop} {s : Shared} {S : Addr} {i ep : Nat} {es : Array (Int × Value)} {t : SetTable} {ks : List Int}
end
end L2
set_option Elab.async false
set_option linter.all false
set_option maxRecDepth 100000
set_option maxHeartbeats 1000000
namespace L2
open PySem PySem.Spec PyProof.Rows
section
variable {prog : Program} {w : World} {A : Around} {E : Value → Shared → Prop} {s : Shared} {S it : Addr} {ep : Nat} {es : Array (Int × Value)} {t : SetTable} {ks : List Int}
end
end L2
set_option Elab.async false
set_option linter.all false
set_option maxRecDepth 100000
set_option maxHeartbeats 1000000
namespace L2
open PySem PySem.Spec PyProof.Rows
section
variable {prog : Program} {w : World} {A : Around} {E : Value → Shared → Prop} {s : Shared} {T : String} {r : Addr} {C : Nat → (Nat → Value → Prop) → Prop} {OK : Heap → Prop}
end
section
variable {X : Cx}
end
end L2
set_option Elab.async false
set_option linter.all false
set_option maxRecDepth 100000
set_option maxHeartbeats 1000000
namespace L2
open PySem PySem.Spec PyProof.Rows
section
variable {X : Cx}
end
end L2
set_option Elab.async false
set_option linter.all false
set_option maxRecDepth 100000
set_option maxHeartbeats 1000000
namespace L2
open PySem PySem.Spec PyProof.Rows
section
variable {X : Cx}
end
end L2
set_option Elab.async false
set_option linter.all false
set_option maxRecDepth 100000
set_option maxHeartbeats 1000000
namespace L2
open PySem PySem.Spec PyProof.Rows
section
variable {ins : Nat} {ds : List Wd}
end
section
variable {ins : Nat} {ds : List Wd} {j lo : Nat} {far : List Int}
end
end L2
set_option Elab.async false
set_option linter.all false
set_option maxRecDepth 100000
set_option maxHeartbeats 1000000
namespace L2
open PySem PySem.Spec PyProof.Rows
section
variable {K : PySem.W.Frag} {σ : St} {H : Hp} {Q : VK} {cs : List Nat} {te : TE}
end
end L2
set_option Elab.async false
set_option linter.all false
set_option maxRecDepth 100000
set_option maxHeartbeats 1000000
namespace L2
open PySem PySem.Spec PyProof.Rows
section
variable {K : PySem.W.Frag} {σ : St} {H : Hp} {Q : VK} {cs : List Nat} {tt : TT} {te : TE}
end
end L2
set_option Elab.async false
set_option linter.all false
set_option maxRecDepth 100000
set_option maxHeartbeats 1000000
namespace L2
open PySem PySem.Spec PyProof.Rows
def tFrz (te : TE) : TE := fun σ H Q => te σ H fun x H1 => ∃ d kvs, x = .ref d ∧ H1 d = some (.dK kvs) ∧ ∀ o, Q x (upd H1 d (.frz o (.dK kvs)))
theorem w_frz {te : TE} {σ : St} {H : Hp} {Q : VK} : tFrz te σ H Q = (te σ H fun x H1 => ∃ d kvs, x = .ref d ∧ H1 d = some (.dK kvs) ∧ ∀ o, Q x (upd H1 d (.frz o (.dK kvs)))) := rfl
section
variable {X : Cx}
theorem pe_frz {e : Expr} {te : TE} (he : PE X e te) : PE X e (tFrz te) := by
  intro pins s σ H Q I h
  refine thn (he pins s σ H _ I h) fun v s1 ⟨x, H1, I1, r1, q1⟩ => ?_
  obtain ⟨d, kvs, rfl, hd, q⟩ := q1
  have ok := I1.hok d _ hd
  obtain ⟨z, lo, vs, rel, dd⟩ := id ok
  obtain ⟨ep, o, es, ho, _⟩ := dd.dictAt
  have I2 : Inv X pins σ (upd H1 d (.frz o (.dK kvs))) { s1 with heap := s1.heap, toks := s1.toks } := I1.write (by rw [hd]; trivial) (.inl rfl) (fun b u _ e => e) ⟨o, ho⟩ ⟨ho, ok⟩
  exact ⟨.ref d, _, I2, r1, q o⟩
def ItD (d : Addr) (o : Obj) (kvs : List (Key × V)) : It :=
  ⟨fun i H => H d = some (.frz o (.dK kvs)) ∧ i < kvs.length, fun i H x H' => H' = H ∧ (kvs.map fun q => kV q.1)[i]? = some x, fun i H => H d = some (.frz o (.dK kvs)) ∧ kvs.length ≤ i⟩
theorem kv_len : ∀ {a : List (Key × V)} {b : List (Key × Value)}, KV a b → a.length = b.length := by
  intro a b r
  induction r with
  | nil => rfl
  | cons _ _ ih => simp [ih]
theorem kv_at : ∀ {a : List (Key × V)} {b : List (Key × Value)}, KV a b → ∀ {i : Nat} {k : Key} {x : Value}, b[i]? = some (k, x) → ∃ v, a[i]? = some (k, v) := by
  intro a b r
  induction r with
  | nil => intro i k x h; simp at h
  | @cons p q _ _ h _ ih =>
    intro i k x e
    cases i with
    | zero =>
      simp only [List.getElem?_cons_zero, Option.some.injEq] at e
      subst e
      refine ⟨p.2, ?_⟩
      simp only [List.getElem?_cons_zero, Option.some.injEq]
      exact Prod.ext h.1 rfl
    | succ i => exact ih (by simpa using e)
theorem frz_at {P : Program} {w : World} {H : Hp} {h : Heap} {d : Addr} {o : Obj} {kvs : List (Key × V)} (ok : HOk P w H h) (e : H d = some (.frz o (.dK kvs))) : h.get? d = some o ∧ (d == sysModules) = false ∧ ∃ vs ep es, KV kvs vs ∧ o.data = .dict es ep ∧ h.DictAt (mixKind P w) d vs ep := by
  obtain ⟨ho, z, lo, vs, rel, dd⟩ := ok d _ e
  obtain ⟨ep, hat⟩ := dd.dictAt
  obtain ⟨o', es, ho', hc, hdat, _⟩ := id hat
  rw [ho] at ho'
  cases ho'
  exact ⟨ho, lo, vs, ep, es, rel, hdat, hat⟩
theorem turn_dict {P : Program} {w : World} {K : PySem.W.Frag} {tg : Expr} (d it : Addr) (o : Obj) (kvs : List (Key × V)) (es : Array DictEntry) (ep : Nat) (ho : o.data = .dict es ep) : Turn P w K tg (ItD d o kvs) [it] it (fun i h => h.IsKeyIter it d i kvs.length ep) where
  mem := by simp
  obj := fun i h st b hb => by
    have e : b = it := by simpa using hb
    subst e
    obtain ⟨u, e, c, dd⟩ := st
    exact ⟨u, e, fun v z => by rw [dd] at z; cases z⟩
  keep := fun i h h' st k => st.at fun o e => k it (by simp) o e
  item := by
    intro X hP hw hK hc i pins s σ H E I hf st hg
    subst hP hw hK
    obtain ⟨hd, hi⟩ := hg
    obtain ⟨_, lo, vs, ep', es', rel, ho', hat⟩ := frz_at I.hok hd
    rw [ho] at ho'
    cases ho'
    have kl := kv_len rel
    obtain ⟨⟨k, x⟩, hx⟩ : ∃ p, vs[i]? = some p := ⟨vs[i]'(by omega), List.getElem?_eq_getElem _⟩
    obtain ⟨v, hv⟩ := kv_at rel hx
    obtain ⟨f0, f1, f2, f3, f4, f5⟩ := hf it (by simp)
    rw [kl] at st
    refine wpAny_pyNext_dict_item st hat hx fun key h' hkey st' sb => ?_
    have I1 : Inv X pins σ H { s with heap := h' } := I.turned (t' := s.toks) (fun b o hb e => (sb.2 b hb).trans e) f0 f1 f3 f4 f5
    obtain ⟨u, e, c, dd⟩ := id st'
    refine ⟨key, rfl, go_of (s := { s with heap := h' }) e c dd (by decide) ⟨kV k, H, I1, key_rel hkey, ⟨rfl, by rw [List.getElem?_map, hv]; rfl⟩, by rw [kl]; exact st', fun b hb => (hf b hb).1⟩⟩
  done := by
    intro X hP hw hK hc i pins s σ H E I hf st hg
    subst hP hw hK
    obtain ⟨hd, hi⟩ := hg
    obtain ⟨_, lo, vs, ep', es', rel, ho', hat⟩ := frz_at I.hok hd
    rw [ho] at ho'
    cases ho'
    have kl := kv_len rel
    obtain ⟨f0, f1, f2, f3, f4, f5⟩ := hf it (by simp)
    rw [kl] at st
    exact wpAny_pyNext_dict_end (I.ok.hd hc) st hat (List.getElem?_eq_none (by omega)) fun h' eb => ⟨rfl, I.turned (t' := s.toks) (fun b o hb e => eb b o hb e) f0 f1 f3 f4 f5⟩
  self := fun _ _ _ _ _ st h => wpAny_pyIter_keyiter st h
def iDict (tl : TE) : TI := fun σ H R => tl σ H fun x H1 => ∃ d o kvs, x = .ref d ∧ H1 d = some (.frz o (.dK kvs)) ∧ R (ItD d o kvs) H1
theorem pi_dict {tg l : Expr} {tl : TE} (hl : PE X l tl) : PI X tg l (iDict tl) := by
  intro pins s σ H R I h
  refine thn (hl pins s σ H _ I h) fun v s1 ⟨x, H1, I1, r1, q1⟩ => ?_
  obtain ⟨d, o, kvs, rfl, hd, q⟩ := q1
  cases r1
  obtain ⟨ho, lo, vs, ep, es, rel, hdat, hat⟩ := frz_at I1.hok hd
  refine wpAny_pyIter_dict lo hat ?_
  refine ⟨s1.heap.objs.size, [s1.heap.objs.size], _, _, H1, rfl, I1.kept (t' := s1.toks) fun b o e => Heap.get?_push_of_some _ e, turn_dict d _ o kvs es ep hdat, ⟨_, Heap.get?_push_size _ rfl, rfl, by rw [kv_len rel]; rfl⟩, fun b hb => ?_, q⟩
  have e : b = s1.heap.objs.size := by simpa using hb
  subst e
  exact I1.fpOk (Nat.le_refl _) (I1.hok.fresh (Nat.le_refl _))
end
end L2
set_option Elab.async false
set_option linter.all false
set_option maxRecDepth 100000
set_option maxHeartbeats 1000000
namespace L2
open PySem PySem.Spec PyProof.Rows
def pm (some_ : List Int) (h : Int) : List Int := some_.flatMap fun r => [h + r, h - r]
end L2
set_option Elab.async false
set_option linter.all false
set_option maxRecDepth 100000
set_option maxHeartbeats 1000000
namespace L2
open PySem PySem.Spec PyProof.Rows
section
variable {K : PySem.W.Frag} {σ : St} {H : Hp} {Q : VK} {cs : List Nat} {te : TE}
end
end L2
set_option Elab.async false
set_option linter.all false
set_option maxRecDepth 100000
set_option maxHeartbeats 1000000
namespace L2
open PySem PySem.Spec PyProof.Rows
section
variable {prog : Program} {w : World} {A : Around} {E : Value → Shared → Prop} {s : Shared} {K : PySem.W.Frag} {x C dx : Addr} {ox : Obj} {name : Str} {v : Value}
end
section
variable {prog : Program} {w : World} {A : Around} {E : Value → Shared → Prop} {h : Heap} {g : Array GenState} {d : Drawn} {t : Nat} {os : OsState}
variable {nm q : Str} {C N : Addr} {bs bm bmB : List Value} {hdct : Bool} {sn : List Str} {sub : List Value} {ab : Bool} {col : Option Bool} {dd : Option Addr} {k0 k1 k2 k3 k5 : Option Value} {B newId initId : String}
end
end L2
set_option Elab.async false
set_option linter.all false
set_option maxRecDepth 100000
set_option maxHeartbeats 1000000
namespace L2
open PySem PySem.Spec PyProof.Rows
section
variable {X : Cx} {pins : List (Addr × Obj)} {σ : St} {H : Hp} {s : Shared} {x C t : Addr} {f : Str}
end
end L2
set_option Elab.async false
set_option linter.all false
set_option maxRecDepth 100000
set_option maxHeartbeats 1000000
namespace L2
open PySem PySem.Spec PyProof.Rows
section
variable {M : Model} {A : Around} {E : Value → Shared → Prop} {env : Env}
variable {nm q : Str} {C N : Addr} {bs bm : List Value} {hdct : Bool} {sn : List Str} {sub : List Value} {ab : Bool} {col : Option Bool} {dd : Option Addr} {k0 k1 k2 k3 k5 : Option Value} {newId : String}
end
section
variable {X : Cx} {C : Addr} {f : Str}
end
end L2
set_option Elab.async false
set_option linter.all false
set_option maxRecDepth 100000
set_option maxHeartbeats 1000000
namespace L2
open PySem PySem.Spec PyProof.Rows
section
variable {prog : Program} {w : World} {A : Around} {E : Value → Shared → Prop} {s : Shared} {K : PySem.W.Frag} {x D : Addr} {o : Obj} {od : Option Obj}
end
end L2
set_option Elab.async false
set_option linter.all false
set_option maxRecDepth 100000
set_option maxHeartbeats 1000000
namespace L2
open PySem PySem.Spec PyProof.Rows
section
variable {α : Type} {p : α → Bool} {l : List α} {i : Nat} {x : α}
end
section
variable {K : PySem.W.Frag} {σ : St} {H : Hp} {Q : VK} {cs : List Nat} {te : TE}
end
section
variable {K : PySem.W.Frag} {σ : St} {H : Hp} {Q : VK} {cs : List Nat} {te : TE}
end
end L2
set_option Elab.async false
set_option linter.all false
set_option maxRecDepth 100000
set_option maxHeartbeats 1000000
namespace L2
open PySem PySem.Spec PyProof.Rows
end L2
set_option Elab.async false
set_option linter.all false
set_option maxRecDepth 100000
set_option maxHeartbeats 1000000
namespace L2
open PySem PySem.Spec PyProof.Rows PySem.W
section
variable {key : Nat → Int} {n : Nat} {p q : Array Nat}
def kLt (key : Nat → Int) (i j : Nat) : Bool := decide (key i < key j)
end
end L2
set_option Elab.async false
set_option linter.all false
set_option maxRecDepth 100000
set_option maxHeartbeats 1000000
namespace L2
open PySem PySem.Spec PyProof.Rows PySem.W
section
variable {prog : Program} {w : World} {A : Around} {E : Value → Shared → Prop} {s : Shared} {vs : List Value} {ks : List Int}
end
end L2
set_option Elab.async false
set_option linter.all false
set_option maxRecDepth 100000
set_option maxHeartbeats 1000000
namespace L2
open PySem PySem.Spec PyProof.Rows PySem.W
section
variable {K : PySem.W.Frag} {σ : St} {H : Hp} {Q : VK} {cs : List Nat} {te : TE}
end
end L2
set_option Elab.async false
set_option linter.all false
set_option maxRecDepth 100000
set_option maxHeartbeats 1000000
namespace L2
open PySem PySem.Spec PyProof.Rows
end L2
set_option Elab.async false
set_option linter.all false
set_option maxRecDepth 100000
set_option maxHeartbeats 1000000
namespace L2
open PySem PySem.Spec PyProof.Rows
section
variable {X : Cx} {pos : Pos}
end
end L2
set_option Elab.async false
set_option linter.all false
set_option maxRecDepth 100000
set_option maxHeartbeats 1000000
namespace L2
open PySem PySem.Spec PyProof.Rows
end L2
set_option Elab.async false
set_option linter.all false
set_option maxRecDepth 100000
set_option maxHeartbeats 1000000
namespace L2
open PySem PySem.Spec PyProof.Rows
def g0 : Go := ⟨0, 0, 0⟩
end L2
set_option Elab.async false
set_option linter.all false
set_option maxRecDepth 100000
set_option maxHeartbeats 1000000
namespace L2
open PySem PySem.Spec PyProof.Rows
section
variable {K : PySem.W.Frag} {σ : St} {H : Hp} {Q : VK} {cs : List Nat} {te : TE} {tt : TT}
end
end L2
set_option Elab.async false
set_option linter.all false
set_option maxRecDepth 100000
set_option maxHeartbeats 1000000
namespace L2
open PySem PySem.Spec PyProof.Rows
section
variable {ins m : Nat} {s1 s2 : List Wd} {t1 t2 : List Go}
end
end L2
set_option Elab.async false
set_option linter.all false
set_option maxRecDepth 100000
set_option maxHeartbeats 1000000
namespace L2
open PySem PySem.Spec PyProof.Rows
section
variable {K : PySem.W.Frag} {σ : St} {H : Hp} {Q : VK} {cs : List Nat} {te : TE}
end
section
variable {K : PySem.W.Frag} {σ : St} {H : Hp} {Q : VK} {cs : List Nat} {te : TE}
end
end L2
set_option Elab.async false
set_option linter.all false
set_option maxRecDepth 100000
set_option maxHeartbeats 1000000
namespace L2
open PySem PySem.Spec PyProof.Rows
end L2
set_option Elab.async false
set_option linter.all false
set_option maxRecDepth 100000
set_option maxHeartbeats 1000000
namespace L2
open PySem PySem.Spec PyProof.Rows
def cnt (bs : List Bool) : Nat := bs.count true
end L2
set_option Elab.async false
set_option linter.all false
set_option maxRecDepth 100000
set_option maxHeartbeats 1000000
namespace L2
open PySem PySem.Spec PyProof.Rows
section
variable {ins : Nat} {ds : List Wd} {gs : List Go} {μ : List Int} {B : Int}
end
section
variable {ins : Nat} {ds : List Wd} {gs : List Go} {μ : List Int} {B : Int}
def bs0 (n m : Nat) : List Bool := List.replicate n false ++ List.replicate m true
end
end L2
set_option Elab.async false
set_option linter.all false
set_option maxRecDepth 100000
set_option maxHeartbeats 1000000
namespace L2
open PySem PySem.Spec PyProof.Rows
section
variable {α : Type} {K : PySem.W.Frag} {f : α → List V} {H H' : Hp} {vs us : List V} {xs : List α} {l : Addr}
end
section
variable {K : PySem.W.Frag} {σ : St} {H : Hp} {Q : VK} {cs : List Nat} {te : TE}
end
end L2
set_option Elab.async false
set_option linter.all false
set_option maxRecDepth 100000
set_option maxHeartbeats 1000000
namespace L2
open PySem PySem.Spec PyProof.Rows
section
variable {H : Hp} {p dl gl a : Addr} {ins k n j : Nat} {us os : List V} {ds : List Wd} {gs : List Go} {H' H'' : Hp} {c : Int}
end
end L2
set_option Elab.async false
set_option linter.all false
set_option maxRecDepth 100000
set_option maxHeartbeats 1000000
namespace L2
open PySem PySem.Spec PyProof.Rows
section
variable {K : PySem.W.Frag} {σ : St} {H : Hp} {Q : VK} {cs : List Nat} {tt : TT}
end
end L2
set_option Elab.async false
set_option linter.all false
set_option maxRecDepth 100000
set_option maxHeartbeats 1000000
namespace L2
open PySem PySem.Spec PyProof.Rows
section
variable {K : PySem.W.Frag} {σ : St} {H : Hp} {Q : VK} {cs : List Nat} {te : TE}
end
end L2
set_option Elab.async false
set_option linter.all false
set_option maxRecDepth 100000
set_option maxHeartbeats 1000000
namespace L2
open PySem PySem.Spec PyProof.Rows
end L2
set_option Elab.async false
set_option linter.all false
set_option maxRecDepth 100000
set_option maxHeartbeats 1000000
namespace L2
open PySem PySem.Spec PyProof.Rows
end L2
set_option Elab.async false
set_option linter.all false
set_option maxRecDepth 100000
set_option maxHeartbeats 1000000
namespace L2
open PySem PySem.Spec PyProof.Rows
section
variable {prog : Program} {w : World} {A : Around} {E : Value → Shared → Prop} {s : Shared}
end
end L2
set_option Elab.async false
set_option linter.all false
set_option maxRecDepth 100000
set_option maxHeartbeats 1000000
namespace L2
open PySem PySem.Spec PyProof.Rows
end L2
set_option Elab.async false
set_option linter.all false
set_option maxRecDepth 100000
set_option maxHeartbeats 1000000
namespace L2
open PySem PySem.Spec PyProof.Rows
end L2
set_option Elab.async false
set_option linter.all false
set_option maxRecDepth 100000
set_option maxHeartbeats 1000000
namespace L2
open PySem PySem.Spec PyProof.Rows
section
variable {K : PySem.W.Frag} {H : Hp}
end
end L2
set_option Elab.async false
set_option linter.all false
set_option maxRecDepth 100000
set_option maxHeartbeats 1000000
namespace L2
open PySem PySem.Spec PyProof.Rows
end L2
set_option Elab.async false
set_option linter.all false
set_option maxRecDepth 100000
set_option maxHeartbeats 1000000
namespace L2
open PySem PySem.Spec PyProof.Rows
end L2
set_option Elab.async false
set_option linter.all false
set_option maxRecDepth 100000
set_option maxHeartbeats 1000000
namespace L2
open PySem PySem.Spec PyProof.Rows
end L2
set_option Elab.async false
set_option linter.all false
set_option maxRecDepth 100000
set_option maxHeartbeats 1000000
namespace L2
open PySem PySem.Spec PyProof.Rows
@[elab_as_elim] theorem abs_ {C : Hp → Prop} {H : Hp} {p : Addr} {o : HO} (np : H p = none) (k : ∀ H', Same H H' → H' p = some o → C H') : C (upd H p o) := k _ (same_new np _) upd_same
def NoT (H : Hp) (v : V) : Prop := flatV v = true ∨ ∃ p, v = .ref p ∧ ((∃ xs, H p = some (.lst xs)) ∨ ∃ kvs, H p = some (.dK kvs))
section
variable {K : PySem.W.Frag} {H : Hp}
end
theorem snoc_at {α : Type} (xs : List α) (c : α) : (xs ++ [c])[xs.length]? = some c := by rw [List.getElem?_append_right (Nat.le_refl _), Nat.sub_self]; rfl
end L2
set_option Elab.async false
set_option linter.all false
set_option maxRecDepth 100000
set_option maxHeartbeats 1000000
namespace L2
open PySem PySem.Spec PyProof.Rows
def rDGF : R2 := fun x y H Q => ∃ a k, x = .ref a ∧ y = kV k ∧ ∃ kvs, Rd H a (.dK kvs) ∧ ∃ v, valV kvs k = some v ∧ Q v H
section
variable {X : Cx} {o i : Expr} {pos : Pos} {td ty : TE}
theorem pe_dgF (hu : X.A.units + 1 < cLine) (ho : PE X o td) (hi : PE X i ty) (hs : NoSl i) : PE X (.Subscript o i pos) (tOp rDGF td ty) := by
  intro pins s σ H Q I h
  refine subD_of PySem.F.slot_dict_getitem.lookup hs (thn (ho pins s σ H _ I h) fun u s1 ⟨x, H1, I1, rx, q1⟩ => thn (hi pins s1 σ H1 _ I1 q1) fun iv s2 ⟨y, H2, I2, ry, q2⟩ => ?_)
  obtain ⟨a, k, rfl, rfl, kvs, hk, v, hv, q⟩ := q2
  obtain rfl : u = Value.ref a := rx
  have g : DGet H2 a (kV k) (some v) := .inl ⟨kvs, k, hk, rfl, hv.symm⟩
  exact ⟨dict_typeIs I2 g, d_getItem hu I2 g ry fun w' s3 I3 rw' => ⟨v, H2, I3, rw', q⟩⟩
end
section
variable {σ : St} {H : Hp} {Q : VK} {a : Addr}
theorem w_dgF {x : Int} : rDGF (.ref a) (.int x) H Q = ∃ kvs, Rd H a (.dK kvs) ∧ ∃ v, valV kvs (.inl x) = some v ∧ Q v H :=
  propext ⟨fun ⟨a', k, e1, e2, q⟩ => by cases e1; rw [kV_i] at e2; subst e2; exact q, fun q => ⟨a, .inl x, rfl, rfl, q⟩⟩
theorem get_of {kvs : List (Key × V)} {c : Int} (h : Rd H a (.dK kvs)) : IsD H a ∧ DGet H a (.int c) (valV kvs (.inl c)) := ⟨.inl ⟨kvs, h⟩, .inl ⟨kvs, .inl c, h, rfl, rfl⟩⟩
end
section
variable {α : Type}
def lk (rows : List (Int × α)) (c : Int) : Option α := (rows.find? fun r => decide (r.1 = c)).map (·.2)
def putL (rows : List (Int × α)) (c : Int) (x : α) : List (Int × α) := if (rows.any fun r => decide (r.1 = c)) = true then rows.map (fun r => if r.1 = c then (r.1, x) else r) else rows ++ [(c, x)]
theorem lk_cons {c d : Int} {x : α} {r : List (Int × α)} : lk ((d, x) :: r) c = if d = c then some x else lk r c := by
  unfold lk
  rw [List.find?_cons]
  by_cases e : d = c
  · rw [if_pos e, decide_eq_true e]; rfl
  · rw [if_neg e, decide_eq_false e]
theorem lk_any {c : Int} : ∀ rows : List (Int × α), (rows.any fun r => decide (r.1 = c)) = (lk rows c).isSome
  | [] => rfl
  | (d, x) :: r => by
    rw [List.any_cons, lk_any r, lk_cons]
    by_cases e : d = c
    · rw [if_pos e, decide_eq_true e]; rfl
    · rw [if_neg e, decide_eq_false e]; rfl
theorem putL_new {rows : List (Int × α)} {c : Int} {x : α} (h : lk rows c = none) : putL rows c x = rows ++ [(c, x)] := by
  unfold putL
  rw [lk_any, h]
  exact if_neg (by intro z; cases z)
theorem putL_old {rows : List (Int × α)} {c : Int} {x y : α} (h : lk rows c = some y) : putL rows c x = rows.map (fun r => if r.1 = c then (r.1, x) else r) := by
  unfold putL
  rw [lk_any, h]
  exact if_pos rfl
theorem putL_keys {rows : List (Int × α)} {c : Int} {x y : α} (h : lk rows c = some y) : (putL rows c x).map (·.1) = rows.map (·.1) := by
  rw [putL_old h, List.map_map]
  refine List.map_congr_left fun r _ => ?_
  show (if r.1 = c then (r.1, x) else r).1 = r.1
  split <;> rfl
theorem lk_none {rows : List (Int × α)} {c : Int} : lk rows c = none ↔ c ∉ rows.map (·.1) := by
  induction rows with
  | nil => exact ⟨fun _ h => absurd h List.not_mem_nil, fun _ => rfl⟩
  | cons r rs ih =>
    obtain ⟨d, x⟩ := r
    rw [lk_cons, List.map_cons, List.mem_cons]
    by_cases e : d = c
    · rw [if_pos e]
      exact ⟨(fun h => by cases h), fun h => absurd (Or.inl e.symm) h⟩
    · rw [if_neg e, ih]
      exact ⟨fun h z => z.elim (fun y => e y.symm) h, fun h z => h (.inr z)⟩
theorem lk_mem {rows : List (Int × α)} {c : Int} {x : α} (h : lk rows c = some x) : (c, x) ∈ rows := by
  induction rows with
  | nil => cases h
  | cons r rs ih =>
    obtain ⟨d, y⟩ := r
    rw [lk_cons] at h
    by_cases e : d = c
    · rw [if_pos e] at h
      cases h
      rw [← e]
      exact List.mem_cons_self
    · rw [if_neg e] at h
      exact List.mem_cons_of_mem _ (ih h)
theorem lk_of_mem {rows : List (Int × α)} {c : Int} {x : α} (nd : (rows.map (·.1)).Nodup) (h : (c, x) ∈ rows) : lk rows c = some x := by
  induction rows with
  | nil => cases h
  | cons r rs ih =>
    obtain ⟨d, y⟩ := r
    rw [List.map_cons, List.nodup_cons] at nd
    rw [lk_cons]
    rcases List.mem_cons.mp h with e | e
    · cases e
      exact if_pos rfl
    · rw [if_neg (fun z => nd.1 (List.mem_map.mpr ⟨(c, x), e, z.symm⟩))]
      exact ih nd.2 e
theorem putL_nodup {rows : List (Int × α)} {c : Int} {x : α} (nd : (rows.map (·.1)).Nodup) : ((putL rows c x).map (·.1)).Nodup := by
  cases h : lk rows c with
  | none =>
    rw [putL_new h, List.map_append]
    refine List.nodup_append.mpr ⟨nd, List.nodup_cons.mpr ⟨List.not_mem_nil, List.nodup_nil⟩, fun a ha b hb => ?_⟩
    have : b = c := List.mem_singleton.mp hb
    rw [this]
    exact fun z => (lk_none.mp h) (z ▸ ha)
  | some y => rw [putL_keys h]; exact nd
inductive DV (R : V → α → Prop) : List (Key × V) → List (Int × α) → Prop
  | nil : DV R [] []
  | cons {c : Int} {v : V} {x : α} {kvs : List (Key × V)} {rows : List (Int × α)} (h : R v x) (r : DV R kvs rows) : DV R ((.inl c, v) :: kvs) ((c, x) :: rows)
variable {R : V → α → Prop} {kvs : List (Key × V)} {rows : List (Int × α)}
theorem DV.imp {R' : V → α → Prop} (h : DV R kvs rows) (f : ∀ v x, R v x → R' v x) : DV R' kvs rows := by
  induction h with
  | nil => exact .nil
  | cons h _ ih => exact .cons (f _ _ h) ih
theorem DV.len (h : DV R kvs rows) : kvs.length = rows.length := by
  induction h with
  | nil => rfl
  | cons _ _ ih => rw [List.length_cons, List.length_cons, ih]
theorem DV.keys (h : DV R kvs rows) : (kvs.map fun q => kV q.1) = (rows.map (·.1)).map V.int := by
  induction h with
  | nil => rfl
  | cons _ _ ih => rw [List.map_cons, ih]; rfl
theorem inl_iff {a b : Int} : (Sum.inl a : Key) = .inl b ↔ a = b := ⟨fun e => Sum.inl.inj e, fun e => by rw [e]⟩
theorem DV.val (h : DV R kvs rows) (c : Int) : (lk rows c = none → valV kvs (.inl c) = none) ∧ ∀ x, lk rows c = some x → ∃ v, valV kvs (.inl c) = some v ∧ R v x := by
  induction h with
  | nil => exact ⟨fun _ => rfl, fun x h => by cases h⟩
  | @cons d v y kvs rows h r ih =>
    rw [lk_cons]
    by_cases e : d = c
    · rw [if_pos e, valV_pos (by rw [e])]
      exact ⟨(fun z => by cases z), fun x z => by cases z; exact ⟨v, rfl, h⟩⟩
    · rw [if_neg e, valV_neg (fun z => e (inl_iff.mp z))]
      exact ih
theorem DV.any (h : DV R kvs rows) (c : Int) : (kvs.any fun kv => decide (kv.1 = .inl c)) = (rows.any fun r => decide (r.1 = c)) := by
  rw [valV_any, lk_any]
  cases e : lk rows c with
  | none => rw [(h.val c).1 e]; rfl
  | some x =>
    obtain ⟨v, hv, _⟩ := (h.val c).2 x e
    rw [hv]
    rfl
theorem DV.mapP (h : DV R kvs rows) {c : Int} {v : V} {x : α} (hv : R v x) : DV R (kvs.map fun kv => if kv.1 = .inl c then (kv.1, v) else kv) (rows.map fun r => if r.1 = c then (r.1, x) else r) := by
  induction h with
  | nil => exact .nil
  | @cons d u y kvs rows h r ih =>
    rw [List.map_cons, List.map_cons]
    by_cases e : d = c
    · rw [if_pos (by rw [e]), if_pos e]
      exact .cons hv ih
    · rw [if_neg (fun z => e (inl_iff.mp z)), if_neg e]
      exact .cons h ih
theorem DV.snoc (h : DV R kvs rows) {c : Int} {v : V} {x : α} (hv : R v x) : DV R (kvs ++ [(.inl c, v)]) (rows ++ [(c, x)]) := by
  induction h with
  | nil => exact .cons hv .nil
  | cons h r ih => exact .cons h ih
theorem DV.put (h : DV R kvs rows) {c : Int} {v : V} {x : α} (hv : R v x) : DV R (putK kvs (.inl c) v) (putL rows c x) := by
  unfold putK putL
  rw [h.any c]
  split
  · exact h.mapP hv
  · exact h.snoc hv
end
def cntW : Nat → Int → Int → Nat
  | 0, n, w => if n = 0 ∧ w = 0 then 1 else 0
  | L + 1, n, w => if n % 2 = 0 then cntW L (n / 2) w else cntW L ((n + 1) / 2) (w - 1) + cntW L ((n - 1) / 2) (w - 1)
theorem cntW_even {L : Nat} {n w : Int} (h : n % 2 = 0) : cntW (L + 1) n w = cntW L (n / 2) w := by rw [cntW, if_pos h]
theorem cntW_odd {L : Nat} {n w : Int} (h : ¬ n % 2 = 0) : cntW (L + 1) n w = cntW L ((n + 1) / 2) (w - 1) + cntW L ((n - 1) / 2) (w - 1) := by rw [cntW, if_neg h]
theorem wn_half {n : Int} (h : n % 2 = 0) : wn (n / 2) = wn n := by
  conv => rhs; rw [show n = 2 * (n / 2) by omega, wn_dbl]
theorem wn_odd1 {n : Int} (h : ¬ n % 2 = 0) : wn n ≤ wn ((n + 1) / 2) + 1 := by
  rw [wn_half (n := n + 1) (by omega)]
  exact (wn_succ n).2
theorem wn_odd2 {n : Int} (h : ¬ n % 2 = 0) : wn n ≤ wn ((n - 1) / 2) + 1 := by
  rw [wn_half (n := n - 1) (by omega)]
  have := (wn_succ (n - 1)).1
  rwa [show n - 1 + 1 = n by omega] at this
theorem cnt_low : ∀ (L : Nat) (n w : Int), w < (wn n : Int) → cntW L n w = 0
  | 0, n, w, h => by
    rw [cntW]
    refine if_neg fun ⟨z, y⟩ => ?_
    rw [z, wn_zero] at h
    omega
  | L + 1, n, w, h => by
    by_cases e : n % 2 = 0
    · rw [cntW_even e]
      exact cnt_low L _ _ (by rw [wn_half e]; exact h)
    · have h1 := wn_odd1 e
      have h2 := wn_odd2 e
      rw [cntW_odd e, cnt_low L _ _ (by omega), cnt_low L _ _ (by omega)]
theorem cnt_big : ∀ (L : Nat) (n w : Int), 2 ^ L ≤ n.natAbs → cntW L n w = 0
  | 0, n, w, h => by
    rw [cntW]
    refine if_neg fun ⟨z, y⟩ => ?_
    rw [z] at h
    exact absurd h (by decide)
  | L + 1, n, w, h => by
    rw [Nat.pow_succ] at h
    by_cases e : n % 2 = 0
    · rw [cntW_even e]
      exact cnt_big L _ _ (by omega)
    · rw [cntW_odd e, cnt_big L _ _ (by omega), cnt_big L _ _ (by omega)]
theorem cnt_zero : ∀ L : Nat, cntW L 0 0 = 1
  | 0 => rfl
  | L + 1 => by rw [cntW_even (by decide)]; exact cnt_zero L
def hmW (L : Nat) (n : Int) : Int := (cntW L n (wn n) : Nat)
theorem hm_zero (L : Nat) : hmW L 0 = 1 := by
  unfold hmW
  rw [wn_zero]
  show ((cntW L 0 0 : Nat) : Int) = 1
  rw [cnt_zero]
  rfl
theorem hm_0 (n : Int) : hmW 0 n = if n = 0 then 1 else 0 := by
  by_cases z : n = 0
  · rw [if_pos z, z]; exact hm_zero 0
  · unfold hmW
    rw [if_neg z, cntW, if_neg (fun y => z y.1)]
    rfl
def stepsF (n : Int) (p : Nat) : List (Int × Int) := if p < Builtin.Int.intBits n then [] else if n % 2 = 0 then [(0, n / 2)] else [(-1, (n + 1) / 2), (1, (n - 1) / 2)].filter fun s => decide (wn s.2 < wn n)
theorem hm_steps (L : Nat) (n : Int) : hmW (L + 1) n = ((stepsF n (L + 1)).map fun s => hmW L s.2).sum := by
  unfold stepsF
  by_cases b : L + 1 < Builtin.Int.intBits n
  · rw [if_pos b]
    unfold hmW
    rw [cnt_big]
    · rfl
    · exact Classical.byContradiction fun z => by
        have := bits_le (i := n) (n := L + 1) (by omega)
        omega
  · rw [if_neg b]
    by_cases e : n % 2 = 0
    · rw [if_pos e]
      show _ = hmW L (n / 2) + 0
      unfold hmW
      rw [cntW_even e, wn_half e, Int.add_zero]
    · rw [if_neg e]
      have h1 := wn_odd1 e
      have h2 := wn_odd2 e
      have key : ∀ m : Int, wn n ≤ wn m + 1 → cntW L m ((wn n : Int) - 1) = if wn m < wn n then cntW L m (wn m) else 0 := fun m hm => by
        by_cases z : wn m < wn n
        · rw [if_pos z, show ((wn n : Int) - 1) = (wn m : Int) by omega]
        · rw [if_neg z]
          exact cnt_low _ _ _ (by omega)
      unfold hmW
      rw [cntW_odd e, key _ h1, key _ h2]
      by_cases z1 : wn ((n + 1) / 2) < wn n <;> by_cases z2 : wn ((n - 1) / 2) < wn n <;> simp [z1, z2]
theorem steps_mem {n : Int} {p : Nat} {s : Int × Int} (h : s ∈ stepsF n p) : s.2 = n / 2 ∨ s.2 = (n + 1) / 2 := by
  unfold stepsF at h
  split at h
  · cases h
  · split at h
    · rw [List.mem_singleton.mp h]
      exact .inl rfl
    · have := (List.mem_filter.mp h).1
      rcases List.mem_cons.mp this with e | e
      · rw [e]
        exact .inr rfl
      · rw [List.mem_singleton.mp e]
        refine .inl ?_
        show (n - 1) / 2 = n / 2
        omega
theorem steps_len (n : Int) (p : Nat) : (stepsF n p).length ≤ 2 := by
  unfold stepsF
  split
  · exact Nat.zero_le _
  · split
    · show 1 ≤ 2
      decide
    · exact List.length_filter_le _ _
end L2
set_option Elab.async false
set_option linter.all false
set_option maxRecDepth 100000
set_option maxHeartbeats 1000000
namespace L2
open PySem PySem.Spec PyProof.Rows
def ForKs (d : Addr) (o : Obj) (kvs : List (Key × V)) (g : TG) (tb : TS) (D : Ends) (σ : St) (H : Hp) : Prop := ∃ W : Nat → Nat → St → Hp → Prop, (∃ m, W 0 m σ H) ∧ ∀ i m σ H, W i m σ H →
  ((ItD d o kvs).stop i H ∧ D.nx σ H) ∨ ((ItD d o kvs).go i H ∧ ∃ N : St → Hp → Prop, (∀ σ' H', N σ' H' → ∃ m', m' < m ∧ W (i + 1) m' σ' H') ∧ ∀ x H', (ItD d o kvs).yld i H x H' → g x σ H' fun σ2 H2 => tb { D with nx := N, ct := N, bk := D.nx } σ2 H2)
section
variable {σ : St} {H : Hp} {D : Ends} {g : TG} {tb : TS} {d : Addr} {o : Obj} {kvs : List (Key × V)}
theorem w_forKs {tl : TE} : tFor (iDict tl) g tb D σ H = (tl σ H fun x H1 => ∃ d o kvs, x = .ref d ∧ H1 d = some (.frz o (.dK kvs)) ∧ ForKs d o kvs g tb D σ H1) := rfl
theorem forKs {xs : List V} (hx : (kvs.map fun q => kV q.1) = xs) (Pv : Nat → St → Hp → Prop) (h0 : Pv 0 σ H) (hl : ∀ i σ H, i ≤ xs.length → Pv i σ H → H d = some (.frz o (.dK kvs)))
    (hs : ∀ i x σ H (N : St → Hp → Prop), xs[i]? = some x → Pv i σ H → (∀ σ' H', Pv (i + 1) σ' H' → N σ' H') → g x σ H fun σ2 H2 => tb { D with nx := N, ct := N, bk := D.nx } σ2 H2) (hd : ∀ σ H, Pv xs.length σ H → D.nx σ H) : ForKs d o kvs g tb D σ H := by
  subst hx
  have el : (kvs.map fun q => kV q.1).length = kvs.length := List.length_map _
  refine ⟨fun i m σ H => m = kvs.length - i ∧ i ≤ kvs.length ∧ Pv i σ H, ⟨_, rfl, Nat.zero_le _, h0⟩, ?_⟩
  rintro i m σ H ⟨rfl, hi, p⟩
  have q := hl i σ H (by omega) p
  by_cases hlt : i < kvs.length
  · refine .inr ⟨⟨q, hlt⟩, Pv (i + 1), fun σ' H' p' => ⟨kvs.length - (i + 1), by omega, rfl, hlt, p'⟩, fun x H' y => ?_⟩
    obtain ⟨rfl, y⟩ := y
    exact hs i x σ _ _ y p fun _ _ z => z
  · refine .inl ⟨⟨q, by omega⟩, hd σ H ?_⟩
    rw [el, show kvs.length = i by omega]
    exact p
end
theorem w_dget2 {td ty tx : TE} {σ : St} {H : Hp} {Q : VK} : tDGet2 td ty tx σ H Q = (td σ H fun x H1 => ∃ a, x = .ref a ∧ IsD H1 a ∧ ty σ H1 fun y H2 => tx σ H2 fun z H3 => ∃ o, DGet H3 a y o ∧ Q (o.getD z) H3) := rfl
theorem it_Ts {K : PySem.W.Frag} {a : Addr} {xs : List V} {H : Hp} (h : SqT K H a xs) {H' : Hp} (s : Same H H') : (∀ i, i < xs.length → (Itt K a).go i H') ∧ (∀ i x H2, (Itt K a).yld i H' x H2 → H2 = H' ∧ (i < xs.length → xs[i]? = some x)) ∧ (Itt K a).stop xs.length H' := by
  have h' := s.seqT h
  exact ⟨fun i hi => ⟨xs, xs[i], h', by simp [hi]⟩, fun i x H2 y => ⟨y.1, fun _ => y.2 xs h'⟩, ⟨xs, h', Nat.le_refl _⟩⟩
def addK (ks : List Int) (x : Int) : List Int := if x ∈ ks then ks else ks ++ [x]
theorem mem_addK {ks : List Int} {x y : Int} : y ∈ addK ks x ↔ y ∈ ks ∨ y = x := by
  unfold addK
  split
  · exact ⟨.inl, fun h => h.elim id fun e => by rw [e]; assumption⟩
  · rw [List.mem_append, List.mem_singleton]
theorem addK_nd {ks : List Int} {x : Int} (h : ks.Nodup) : (addK ks x).Nodup := by
  unfold addK
  split
  · exact h
  · rename_i z
    refine List.nodup_append.mpr ⟨h, List.nodup_cons.mpr ⟨List.not_mem_nil, List.nodup_nil⟩, fun a ha b hb => ?_⟩
    rw [List.mem_singleton.mp hb]
    exact fun e => z (e ▸ ha)
theorem mem_addKs {y : Int} : ∀ {xs ks : List Int}, y ∈ xs.foldl addK ks ↔ y ∈ ks ∨ y ∈ xs
  | [], ks => ⟨.inl, fun h => h.elim id fun z => absurd z List.not_mem_nil⟩
  | x :: xs, ks => by
    rw [List.foldl_cons, mem_addKs, mem_addK, List.mem_cons]
    exact ⟨fun h => h.elim (fun h => h.elim .inl fun e => .inr (.inl e)) fun h => .inr (.inr h), fun h => h.elim (fun h => .inl (.inl h)) fun h => h.elim (fun e => .inl (.inr e)) .inr⟩
theorem addKs_nd : ∀ {xs ks : List Int}, ks.Nodup → (xs.foldl addK ks).Nodup
  | [], _, h => h
  | x :: xs, ks, h => by
    rw [List.foldl_cons]
    exact addKs_nd (addK_nd h)
def uR (v : V) (_ : Unit) : Prop := v = .bl true
def uL (ks : List Int) : List (Int × Unit) := ks.map fun k => (k, ())
def leftsF (r : Int) (p : Nat) : List Int := (stepsF r p).map (·.2)
def nxtK (p : Nat) (acc : List Int) (r : Int) : List Int := (leftsF r p).foldl addK acc
theorem mem_nxts {p : Nat} {y : Int} : ∀ {ks acc : List Int}, y ∈ ks.foldl (nxtK p) acc ↔ y ∈ acc ∨ ∃ r ∈ ks, y ∈ leftsF r p
  | [], acc => ⟨.inl, fun h => h.elim id fun ⟨_, z, _⟩ => absurd z List.not_mem_nil⟩
  | r :: ks, acc => by
    rw [List.foldl_cons, mem_nxts]
    unfold nxtK
    rw [mem_addKs]
    constructor
    · rintro ((h | h) | ⟨q, h1, h2⟩)
      · exact .inl h
      · exact .inr ⟨r, List.mem_cons_self, h⟩
      · exact .inr ⟨q, List.mem_cons_of_mem _ h1, h2⟩
    · rintro (h | ⟨q, h1, h2⟩)
      · exact .inl (.inl h)
      · rcases List.mem_cons.mp h1 with e | e
        · exact .inl (.inr (e ▸ h2))
        · exact .inr ⟨q, e, h2⟩
theorem nxts_nd {p : Nat} : ∀ {ks acc : List Int}, acc.Nodup → (ks.foldl (nxtK p) acc).Nodup
  | [], _, h => h
  | r :: ks, acc, h => by
    rw [List.foldl_cons]
    exact nxts_nd (addKs_nd h)
def keyL (places : Nat) (n : Int) : Nat → List Int
  | 0 => [n]
  | i + 1 => (keyL places n i).foldl (nxtK (places - i)) []
theorem keyL_nd (P : Nat) (n : Int) : ∀ i, (keyL P n i).Nodup
  | 0 => List.nodup_cons.mpr ⟨List.not_mem_nil, List.nodup_nil⟩
  | i + 1 => nxts_nd List.nodup_nil
theorem keyL_mem (P : Nat) (n : Int) : ∀ i x, x ∈ keyL P n i → x = n / 2 ^ i ∨ x = n / 2 ^ i + 1
  | 0, x, h => by
    rw [show keyL P n 0 = [n] from rfl, List.mem_singleton] at h
    rw [h, Int.pow_zero, Int.ediv_one]
    exact .inl rfl
  | i + 1, x, h => by
    rcases mem_nxts.mp h with z | ⟨r, hr, hx⟩
    · cases z
    · obtain ⟨s, hs, rfl⟩ := List.mem_map.mp hx
      have e : n / 2 ^ (i + 1) = n / 2 ^ i / 2 := by rw [Int.pow_succ, Int.ediv_ediv_of_nonneg (Int.le_of_lt (pow_pos2 i))]
      have := keyL_mem P n i r hr
      have := steps_mem hs
      rw [e]
      generalize n / 2 ^ i = m at *
      omega
theorem two_len {a : Int} : ∀ {xs : List Int}, xs.Nodup → (∀ x ∈ xs, x = a ∨ x = a + 1) → xs.length ≤ 2
  | [], _, _ => Nat.zero_le _
  | [_], _, _ => Nat.le_succ 1
  | [_, _], _, _ => Nat.le_refl 2
  | x :: y :: z :: r, nd, h => by
    have h1 := h x List.mem_cons_self
    have h2 := h y (List.mem_cons_of_mem _ List.mem_cons_self)
    have h3 := h z (List.mem_cons_of_mem _ (List.mem_cons_of_mem _ List.mem_cons_self))
    rw [List.nodup_cons, List.nodup_cons] at nd
    have n1 : x ≠ y := fun e => nd.1 (e ▸ List.mem_cons_self)
    have n2 : x ≠ z := fun e => nd.1 (e ▸ List.mem_cons_of_mem _ List.mem_cons_self)
    have n3 : y ≠ z := fun e => nd.2.1 (e ▸ List.mem_cons_self)
    omega
theorem keyL_len (P : Nat) (n : Int) (i : Nat) : (keyL P n i).length ≤ 2 := two_len (keyL_nd P n i) (keyL_mem P n i)
theorem part_len {P : Nat} {n : Int} {i : Nat} {xs : List Int} (nd : xs.Nodup) (h : ∀ y ∈ xs, y ∈ keyL P n i) : xs.length ≤ 2 := two_len nd fun y hy => keyL_mem P n i y (h y hy)
theorem uL_len (ks : List Int) : (uL ks).length = ks.length := by unfold uL; rw [List.length_map]
theorem keyL_abs {P : Nat} {n : Int} {i : Nat} {x : Int} (h : x ∈ keyL P n i) : x.natAbs ≤ n.natAbs + 1 := by
  have h1 := Int.natAbs_ediv_le_natAbs n (2 ^ i)
  have := keyL_mem P n i x h
  omega
theorem keyL_next {P : Nat} {n : Int} {i : Nat} {r : Int} {s : Int × Int} (hr : r ∈ keyL P n i) (hs : s ∈ stepsF r (P - i)) : s.2 ∈ keyL P n (i + 1) :=
  mem_nxts.mpr (.inr ⟨r, hr, List.mem_map.mpr ⟨s, hs, rfl⟩⟩)
theorem uL_keys (ks : List Int) : (uL ks).map (·.1) = ks := by unfold uL; rw [List.map_map]; exact List.map_id _
theorem uL_put (ks : List Int) (x : Int) : putL (uL ks) x () = uL (addK ks x) := by
  unfold addK
  split
  · rename_i h
    have e : lk (uL ks) x = some () := by
      cases z : lk (uL ks) x with
      | none => exact absurd (by rw [uL_keys]; exact h) (lk_none.mp z)
      | some u => rfl
    rw [putL_old e]
    unfold uL
    rw [List.map_map]
    refine List.map_congr_left fun k _ => ?_
    show (if k = x then (k, ()) else (k, ())) = (k, ())
    split <;> rfl
  · rename_i h
    rw [putL_new (lk_none.mpr (by rw [uL_keys]; exact h))]
    unfold uL
    rw [List.map_append]
    rfl
def stT (s : Int × Int) : List V := [.int s.1, .int s.2]
def stR (H : Hp) (v : V) (ss : List (Int × Int)) : Prop := ∃ l us, v = .ref l ∧ H l = some (.lst us) ∧ HTs stT H us ss
theorem stR.same {H H' : Hp} {v : V} {ss : List (Int × Int)} (h : stR H v ss) (s : Same H H') : stR H' v ss := by
  obtain ⟨l, us, e, h1, h2⟩ := h
  exact ⟨l, us, e, s _ _ h1, h2.same s⟩
def rowL (ks : List Int) (p : Nat) : List (Int × List (Int × Int)) := ks.map fun r => (r, stepsF r p)
theorem rowL_keys (ks : List Int) (p : Nat) : (rowL ks p).map (·.1) = ks := by unfold rowL; rw [List.map_map]; exact List.map_id _
theorem lk_rowL {ks : List Int} {p : Nat} {r : Int} (h : r ∈ ks) (nd : ks.Nodup) : lk (rowL ks p) r = some (stepsF r p) := lk_of_mem (by rw [rowL_keys]; exact nd) (List.mem_map.mpr ⟨r, h, rfl⟩)
def spSteps : Sp := fun vs H Q _ => ∃ (n : Int) (p : Nat), vs = [.int n, .int p] ∧ n.natAbs < 2 ^ 4000 ∧ p ≤ 1000 ∧ ∀ l us H', H l = none → Same H H' → H' l = some (.lst us) → HTs stT H' us (stepsF n p) → Q (.ref l) H'
theorem HTs.chgO {α : Type} {f : α → List V} {H H' : Hp} {a : Addr} {o : HO} {vs : List V} {xs : List α} (h : HTs f H vs xs) (ha : H a = some o) (hn : ∀ ys, o ≠ .tup ys) (c : Chg a H H') : HTs f H' vs xs := ⟨h.len, fun k x e => by
  obtain ⟨p, e1, e2⟩ := h.at_ k x e
  exact ⟨p, e1, c _ _ (ne_of e2 ha fun z => hn _ z.symm) e2⟩⟩
def stX (t : Addr) (H : Hp) (v : V) (ss : List (Int × Int)) : Prop := ∃ l us, v = .ref l ∧ l ≠ t ∧ H l = some (.lst us) ∧ HTs stT H us ss
theorem stX.same {t : Addr} {H H' : Hp} {v : V} {ss : List (Int × Int)} (h : stX t H v ss) (s : Same H H') : stX t H' v ss := by
  obtain ⟨l, us, e, n, h1, h2⟩ := h
  exact ⟨l, us, e, n, s _ _ h1, h2.same s⟩
theorem stX.st {t : Addr} {H : Hp} {v : V} {ss : List (Int × Int)} (h : stX t H v ss) : stR H v ss := by
  obtain ⟨l, us, e, n, h1, h2⟩ := h
  exact ⟨l, us, e, h1, h2⟩
theorem stX.chg {t : Addr} {H H' : Hp} {v : V} {ss : List (Int × Int)} {xs : List V} (h : stX t H v ss) (ht : H t = some (.lst xs)) (c : Chg t H H') : stX t H' v ss := by
  obtain ⟨l, us, e, n, h1, h2⟩ := h
  exact ⟨l, us, e, n, c _ _ n h1, h2.chgO ht (by intro ys z; cases z) c⟩
theorem stX.chgD {t a : Addr} {H H' : Hp} {v : V} {ss : List (Int × Int)} {kv : List (Key × V)} (h : stX t H v ss) (ha : H a = some (.dK kv)) (c : Chg a H H') : stX t H' v ss := by
  obtain ⟨l, us, e, n, h1, h2⟩ := h
  exact ⟨l, us, e, n, c _ _ (ne_of h1 ha (by intro z; cases z)) h1, h2.chgO ha (by intro ys z; cases z) c⟩
def LvlX (t : Addr) (H : Hp) (P : Nat) (n : Int) (i : Nat) (v : V) : Prop := ∃ d o kvs, v = .ref d ∧ H d = some (.frz o (.dK kvs)) ∧ DV (stX t H) kvs (rowL (keyL P n i) (P - i))
theorem LvlX.same {t : Addr} {H H' : Hp} {P : Nat} {n : Int} {i : Nat} {v : V} (h : LvlX t H P n i v) (s : Same H H') : LvlX t H' P n i v := by
  obtain ⟨d, o, kvs, e, h1, h2⟩ := h
  exact ⟨d, o, kvs, e, s _ _ h1, h2.imp fun _ _ z => z.same s⟩
theorem LvlX.chg {t : Addr} {H H' : Hp} {P : Nat} {n : Int} {i : Nat} {v : V} {xs : List V} (h : LvlX t H P n i v) (ht : H t = some (.lst xs)) (c : Chg t H H') : LvlX t H' P n i v := by
  obtain ⟨d, o, kvs, e, h1, h2⟩ := h
  exact ⟨d, o, kvs, e, c _ _ (ne_of h1 ht (by intro z; cases z)) h1, h2.imp fun _ _ z => z.chg ht c⟩
theorem LvlX.chgD {t a : Addr} {H H' : Hp} {P : Nat} {n : Int} {i : Nat} {v : V} {kv : List (Key × V)} (h : LvlX t H P n i v) (ha : H a = some (.dK kv)) (c : Chg a H H') : LvlX t H' P n i v := by
  obtain ⟨d, o, kvs, e, h1, h2⟩ := h
  exact ⟨d, o, kvs, e, c _ _ (ne_of h1 ha (by intro z; cases z)) h1, h2.imp fun _ _ z => z.chgD ha c⟩
theorem rowL_snoc {ks : List Int} {p j : Nat} {r : Int} (nd : ks.Nodup) (h : ks[j]? = some r) : putL (rowL (ks.take j) p) r (stepsF r p) = rowL (ks.take (j + 1)) p := by
  have hj := (List.getElem?_eq_some_iff.mp h).1
  have hn : r ∉ ks.take j := fun z => by
    have e := List.take_append_drop j ks
    rw [← e, List.nodup_append] at nd
    refine nd.2.2 r z r ?_ rfl
    rw [List.mem_iff_getElem?]
    exact ⟨0, by rw [List.getElem?_drop, Nat.add_zero]; exact h⟩
  rw [putL_new (lk_none.mpr (by rw [rowL_keys]; exact hn)), List.take_succ, h]
  unfold rowL
  rw [List.map_append]
  rfl
def LvlAt (H : Hp) (P : Nat) (n : Int) (i : Nat) (v : V) : Prop := ∃ d o kvs, v = .ref d ∧ H d = some (.frz o (.dK kvs)) ∧ DV (stR H) kvs (rowL (keyL P n i) (P - i))
def spLevels : Sp := fun vs H Q _ => ∃ (n : Int) (P : Nat), vs = [.int n, .int P] ∧ n.natAbs < 2 ^ 3000 ∧ P ≤ 1000 ∧ ∀ l us H', H l = none → Same H H' → H' l = some (.lst us) → us.length = P → (∀ i v, us[i]? = some v → LvlAt H' P n i v) → Q (.ref l) H'
theorem mapK_snoc {α : Type} {f : Int → α} {ks : List Int} {j : Nat} {r : Int} (nd : ks.Nodup) (h : ks[j]? = some r) : putL ((ks.take j).map fun r => (r, f r)) r (f r) = (ks.take (j + 1)).map fun r => (r, f r) := by
  have hn : r ∉ ks.take j := fun z => by
    have e := List.take_append_drop j ks
    rw [← e, List.nodup_append] at nd
    refine nd.2.2 r z r ?_ rfl
    rw [List.mem_iff_getElem?]
    exact ⟨0, by rw [List.getElem?_drop, Nat.add_zero]; exact h⟩
  have ek : ((ks.take j).map fun r => (r, f r)).map (·.1) = ks.take j := by rw [List.map_map]; exact List.map_id _
  rw [putL_new (lk_none.mpr (by rw [ek]; exact hn)), List.take_succ, h, List.map_append]
  rfl
def cR (v : V) (x : Int) : Prop := v = .int x
def spAhead : Sp := fun vs H Q _ => ∃ (d c : Addr) (o : Obj) (kvs kvc : List (Key × V)) (ks : List Int) (t : Nat) (rows : List (Int × Int)), vs = [.ref d, .ref c] ∧ H d = some (.frz o (.dK kvs)) ∧ DV (stR H) kvs (rowL ks (t + 1)) ∧ ks.Nodup ∧ ks.length ≤ 2 ∧ H c = some (.dK kvc) ∧ DV cR kvc rows ∧ (∀ r ∈ ks, ∀ s ∈ stepsF r (t + 1), (lk rows s.2).getD 0 = hmW t s.2) ∧
  ∀ c' kv' H', H c' = none → Same H H' → H' c' = some (.dK kv') → DV cR kv' (ks.map fun r => (r, hmW (t + 1) r)) → Q (.ref c') H'
def spHow : Sp := fun vs H Q _ => ∃ (n : Int) (P : Nat), vs = [.int n, .int P] ∧ n.natAbs < 2 ^ 3000 ∧ P ≤ 1000 ∧ ∀ H', Same H H' → Q (.int (hmW P n)) H'
theorem cnt_map {ks : List Int} {t : Nat} {x : Int} (h : x ∈ ks) (nd : ks.Nodup) : (lk (ks.map fun r => (r, hmW t r)) x).getD 0 = hmW t x := by
  have e : (ks.map fun r => (r, hmW t r)).map (·.1) = ks := by rw [List.map_map]; exact List.map_id _
  rw [lk_of_mem (x := hmW t x) (by rw [e]; exact nd) (List.mem_map.mpr ⟨x, h, rfl⟩)]
  rfl
section
variable {L : Nat} {n : Int}
def totR (q : Nat) (b W : Int) (rows : List (Int × Int × Int)) : Int := (rows.map fun r => r.2.2 * ((cntW q (b + r.1) (W - r.2.1) : Nat) : Int)).sum
def Rlz (L : Nat) (n : Int) (q : Nat) (b : Int) (c m : Int) : Prop := ∀ u, 0 < cntW q (b + c) u → 0 < cntW L n (m + u)
def putR (rows : List (Int × Int × Int)) (c m k : Int) : List (Int × Int × Int) := putL rows c (if m < ((lk rows c).getD (m, 0)).1 then (m, k) else if m = ((lk rows c).getD (m, 0)).1 then (((lk rows c).getD (m, 0)).1, ((lk rows c).getD (m, 0)).2 + k) else (lk rows c).getD (m, 0))
structure GR (L : Nat) (n : Int) (q : Nat) (b : Int) (rows : List (Int × Int × Int)) : Prop where
  nd : (rows.map (·.1)).Nodup
  ky : ∀ r ∈ rows, r.1 = 0 ∨ r.1 = 0 + 1
  rl : ∀ r ∈ rows, Rlz L n q b r.1 r.2.1
theorem GR.len {q : Nat} {b : Int} {rows : List (Int × Int × Int)} (h : GR L n q b rows) : rows.length ≤ 2 := by
  rw [← List.length_map (·.1)]
  exact two_len h.nd fun x hx => by
    obtain ⟨r, hr, rfl⟩ := List.mem_map.mp hx
    exact h.ky r hr
theorem tot_app {q : Nat} {b W : Int} (rows rows' : List (Int × Int × Int)) : totR q b W (rows ++ rows') = totR q b W rows + totR q b W rows' := by
  unfold totR
  rw [List.map_append, List.sum_append]
theorem tot_set {q : Nat} {b W c : Int} {x y : Int × Int} : ∀ {rows : List (Int × Int × Int)}, (rows.map (·.1)).Nodup → lk rows c = some x → totR q b W (rows.map fun r => if r.1 = c then (r.1, y) else r) = totR q b W rows - x.2 * ((cntW q (b + c) (W - x.1) : Nat) : Int) + y.2 * ((cntW q (b + c) (W - y.1) : Nat) : Int)
  | [], _, h => by cases h
  | (d, z) :: r, nd, h => by
    rw [List.map_cons, List.nodup_cons] at nd
    rw [lk_cons] at h
    unfold totR at *
    rw [List.map_cons, List.map_cons, List.map_cons, List.sum_cons, List.sum_cons]
    by_cases e : d = c
    · rw [if_pos e] at h
      cases h
      rw [if_pos e]
      have same : (r.map fun r => if r.1 = c then (r.1, y) else r) = r := by
        conv => rhs; rw [← List.map_id r]
        refine List.map_congr_left fun q hq => if_neg fun z => ?_
        exact nd.1 (List.mem_map.mpr ⟨q, hq, by rw [z, e]⟩)
      rw [same]
      show y.2 * ((cntW q (b + d) (W - y.1) : Nat) : Int) + _ = x.2 * ((cntW q (b + d) (W - x.1) : Nat) : Int) + _ - _ + _
      rw [e]
      omega
    · rw [if_neg e] at h
      rw [if_neg e]
      have ih := tot_set (q := q) (b := b) (W := W) (c := c) (x := x) (y := y) nd.2 h
      unfold totR at ih
      rw [ih]
      omega
theorem put_tot {q : Nat} {b : Int} {rows : List (Int × Int × Int)} {c m k : Int} (h : GR L n q b rows) (hc : Rlz L n q b c m) : totR q b (wn n) (putR rows c m k) = totR q b (wn n) rows + k * ((cntW q (b + c) ((wn n : Int) - m) : Nat) : Int) := by
  unfold putR
  cases e : lk rows c with
  | none =>
    rw [putL_new e, tot_app]
    congr 1
    show totR q b (wn n) [(c, if m < m then (m, k) else if m = m then (m, 0 + k) else (m, 0))] = _
    rw [if_neg (by omega), if_pos rfl]
    unfold totR
    show (0 + k) * _ + 0 = _
    rw [Int.zero_add, Int.add_zero]
  | some x =>
    obtain ⟨m0, k0⟩ := x
    have hr := h.rl _ (lk_mem e)
    rw [putL_old e, tot_set h.nd e]
    show _ - k0 * ((cntW q (b + c) ((wn n : Int) - m0) : Nat) : Int) + _ = _
    have low : ∀ (m1 m2 : Int), m1 < m2 → Rlz L n q b c m1 → cntW q (b + c) ((wn n : Int) - m2) = 0 := fun m1 m2 hl hz => by
      refine Nat.eq_zero_of_not_pos fun z => ?_
      have := hz _ z
      rw [cnt_low L n _ (by omega)] at this
      exact absurd this (by decide)
    show _ - _ + (if m < m0 then (m, k) else if m = m0 then (m0, k0 + k) else (m0, k0)).2 * ((cntW q (b + c) ((wn n : Int) - (if m < m0 then (m, k) else if m = m0 then (m0, k0 + k) else (m0, k0)).1) : Nat) : Int) = _
    by_cases z : m < m0
    · rw [if_pos z, low m m0 z hc]
      show _ - k0 * ((0 : Nat) : Int) + k * _ = _
      simp
    · rw [if_neg z]
      by_cases y : m = m0
      · rw [if_pos y, y]
        show _ - k0 * ((cntW q (b + c) ((wn n : Int) - m0) : Nat) : Int) + (k0 + k) * ((cntW q (b + c) ((wn n : Int) - m0) : Nat) : Int) = _
        rw [Int.add_mul]
        omega
      · rw [if_neg y, low m0 m (by omega) hr]
        show _ - _ + k0 * _ = _ + k * ((0 : Nat) : Int)
        simp
theorem put_gr {q : Nat} {b : Int} {rows : List (Int × Int × Int)} {c m k : Int} (h : GR L n q b rows) (hc : Rlz L n q b c m) (h01 : c = 0 ∨ c = 0 + 1) : GR L n q b (putR rows c m k) := by
  unfold putR
  refine ⟨putL_nodup h.nd, fun r hr => ?_, fun r hr => ?_⟩
  · cases e : lk rows c with
    | none =>
      rw [putL_new e] at hr
      rcases List.mem_append.mp hr with z | z
      · exact h.ky r z
      · rw [List.mem_singleton.mp z]; exact h01
    | some x =>
      rw [putL_old e] at hr
      obtain ⟨r', hr', rfl⟩ := List.mem_map.mp hr
      show (if r'.1 = c then (r'.1, _) else r').1 = 0 ∨ (if r'.1 = c then (r'.1, _) else r').1 = 0 + 1
      split
      · exact h.ky r' hr'
      · exact h.ky r' hr'
  · cases e : lk rows c with
    | none =>
      rw [putL_new e] at hr
      rcases List.mem_append.mp hr with z | z
      · exact h.rl r z
      · rw [List.mem_singleton.mp z, e]
        show Rlz L n q b c (if m < m then (m, k) else if m = m then (m, 0 + k) else (m, 0)).1
        rw [if_neg (by omega), if_pos rfl]
        exact hc
    | some x =>
      rw [putL_old e, e] at hr
      obtain ⟨r', hr', rfl⟩ := List.mem_map.mp hr
      obtain ⟨m0, k0⟩ := x
      have ho := h.rl _ (lk_mem e)
      by_cases y : r'.1 = c
      · rw [if_pos y]
        show Rlz L n q b r'.1 (if m < m0 then (m, k) else if m = m0 then (m0, k0 + k) else (m0, k0)).1
        rw [y]
        split
        · exact hc
        · split
          · exact ho
          · exact ho
      · rw [if_neg y]
        exact h.rl r' hr'
def digs (low : Int) : List Int := if low % 2 = 0 then [0] else [-1, 1]
def carR (bit : Int) (acc : List (Int × Int × Int)) (r : Int × Int × Int) : List (Int × Int × Int) := (digs (bit + r.1)).foldl (fun a d => putR a ((bit + r.1 - d) / 2) (r.2.1 + (if d < 0 then -d else d)) r.2.2) acc
theorem step_one {q : Nat} {b' bit : Int} {acc : List (Int × Int × Int)} {r : Int × Int × Int} {d : Int} (hb : bit = 0 ∨ bit = 1) (h : GR L n q b' acc) (h01 : r.1 = 0 ∨ r.1 = 0 + 1) (hd : d ∈ digs (bit + r.1)) (hr : Rlz L n (q + 1) (2 * b' + bit) r.1 r.2.1) :
    GR L n q b' (putR acc ((bit + r.1 - d) / 2) (r.2.1 + (if d < 0 then -d else d)) r.2.2) ∧ totR q b' (wn n) (putR acc ((bit + r.1 - d) / 2) (r.2.1 + (if d < 0 then -d else d)) r.2.2) = totR q b' (wn n) acc + r.2.2 * ((cntW q ((2 * b' + bit + r.1 - d) / 2) ((wn n : Int) - r.2.1 - (if d < 0 then -d else d)) : Nat) : Int) := by
  have eb : b' + (bit + r.1 - d) / 2 = (2 * b' + bit + r.1 - d) / 2 := by omega
  have hz : Rlz L n q b' ((bit + r.1 - d) / 2) (r.2.1 + (if d < 0 then -d else d)) := fun u hu => by
    rw [eb] at hu
    have := hr (u + (if d < 0 then -d else d)) ?_
    · rw [show r.2.1 + (if d < 0 then -d else d) + u = r.2.1 + (u + (if d < 0 then -d else d)) by omega]
      exact this
    · unfold digs at hd
      split at hd
      · have : d = 0 := List.mem_singleton.mp hd
        subst this
        rw [if_neg (by decide), cntW_even (by omega)]
        rw [Int.sub_zero] at hu
        rw [Int.add_zero]
        exact hu
      · rw [cntW_odd (by omega)]
        rcases List.mem_cons.mp hd with e | e
        · subst e
          rw [if_pos (by decide)]
          rw [show 2 * b' + bit + r.1 - -1 = 2 * b' + bit + r.1 + 1 by omega] at hu
          rw [show u + - -1 - 1 = u by omega]
          omega
        · have e := List.mem_singleton.mp e
          subst e
          rw [if_neg (by decide), show u + 1 - 1 = u by omega]
          omega
  have hto : (bit + r.1 - d) / 2 = 0 ∨ (bit + r.1 - d) / 2 = 0 + 1 := by
    unfold digs at hd
    split at hd
    · have : d = 0 := List.mem_singleton.mp hd
      omega
    · rcases List.mem_cons.mp hd with e | e
      · omega
      · have e := List.mem_singleton.mp e
        omega
  refine ⟨put_gr h hz hto, ?_⟩
  rw [put_tot h hz, eb, show (wn n : Int) - (r.2.1 + (if d < 0 then -d else d)) = (wn n : Int) - r.2.1 - (if d < 0 then -d else d) by omega]
theorem step_all {q : Nat} {b' bit : Int} {acc : List (Int × Int × Int)} {r : Int × Int × Int} (hb : bit = 0 ∨ bit = 1) (h : GR L n q b' acc) (h01 : r.1 = 0 ∨ r.1 = 0 + 1) (hr : Rlz L n (q + 1) (2 * b' + bit) r.1 r.2.1) :
    GR L n q b' (carR bit acc r) ∧ totR q b' (wn n) (carR bit acc r) = totR q b' (wn n) acc + r.2.2 * ((cntW (q + 1) (2 * b' + bit + r.1) ((wn n : Int) - r.2.1) : Nat) : Int) := by
  have S := fun {acc : List (Int × Int × Int)} (h : GR L n q b' acc) {d : Int} (hd : d ∈ digs (bit + r.1)) => step_one hb h h01 hd hr
  unfold carR
  by_cases e : (bit + r.1) % 2 = 0
  · have ed : digs (bit + r.1) = [0] := if_pos e
    obtain ⟨g, t⟩ := S h (d := 0) (by rw [ed]; exact List.mem_singleton.mpr rfl)
    rw [ed]
    refine ⟨g, t.trans ?_⟩
    rw [cntW_even (by omega), if_neg (by decide), Int.sub_zero, Int.sub_zero]
  · have ed : digs (bit + r.1) = [-1, 1] := if_neg e
    obtain ⟨g1, t1⟩ := S h (d := -1) (by rw [ed]; exact List.mem_cons_self)
    obtain ⟨g2, t2⟩ := S g1 (d := 1) (by rw [ed]; exact List.mem_cons_of_mem _ List.mem_cons_self)
    rw [ed]
    refine ⟨g2, t2.trans ?_⟩
    rw [t1, cntW_odd (by omega), if_pos (by decide), if_neg (by decide), show 2 * b' + bit + r.1 - -1 = 2 * b' + bit + r.1 + 1 by omega, show ((wn n : Int) - r.2.1 - - -1) = (wn n : Int) - r.2.1 - 1 by omega, Int.natCast_add, Int.mul_add]
    omega
def nextR (bit : Int) (rows : List (Int × Int × Int)) : List (Int × Int × Int) := rows.foldl (carR bit) []
theorem next_all {q : Nat} {b' bit : Int} (hb : bit = 0 ∨ bit = 1) : ∀ {rows acc : List (Int × Int × Int)}, GR L n q b' acc → (∀ r ∈ rows, r.1 = 0 ∨ r.1 = 0 + 1) → (∀ r ∈ rows, Rlz L n (q + 1) (2 * b' + bit) r.1 r.2.1) →
    GR L n q b' (rows.foldl (carR bit) acc) ∧ totR q b' (wn n) (rows.foldl (carR bit) acc) = totR q b' (wn n) acc + totR (q + 1) (2 * b' + bit) (wn n) rows
  | [], acc, h, _, _ => ⟨h, by unfold totR; simp⟩
  | r :: rows, acc, h, h1, h2 => by
    obtain ⟨g, t⟩ := step_all hb h (h1 r List.mem_cons_self) (h2 r List.mem_cons_self)
    obtain ⟨g2, t2⟩ := next_all hb g (fun r hr => h1 r (List.mem_cons_of_mem _ hr)) (fun r hr => h2 r (List.mem_cons_of_mem _ hr))
    rw [List.foldl_cons]
    refine ⟨g2, t2.trans ?_⟩
    rw [t]
    show _ = _ + totR (q + 1) (2 * b' + bit) (wn n) ([r] ++ rows)
    rw [tot_app]
    unfold totR
    simp only [List.map_cons, List.map_nil, List.sum_cons, List.sum_nil]
    omega
def rowsR (n : Int) : Nat → List (Int × Int × Int)
  | 0 => [(0, 0, 1)]
  | p + 1 => nextR (n / 2 ^ p % 2) (rowsR n p)
theorem gr_nil {q : Nat} {b : Int} : GR L n q b [] := ⟨List.nodup_nil, (fun r h => by cases h), fun r h => by cases h⟩
theorem halfPow (n : Int) (p : Nat) : n / 2 ^ p = 2 * (n / 2 ^ (p + 1)) + n / 2 ^ p % 2 := by
  rw [Int.pow_succ, ← Int.ediv_ediv_of_nonneg (Int.le_of_lt (pow_pos2 p))]
  omega
theorem rows_all (L : Nat) (n : Int) : ∀ p, p ≤ L → GR L n (L - p) (n / 2 ^ p) (rowsR n p) ∧ totR (L - p) (n / 2 ^ p) (wn n) (rowsR n p) = hmW L n
  | 0, _ => by
    have e : n / 2 ^ 0 + 0 = n := by rw [Int.pow_zero, Int.ediv_one, Int.add_zero]
    refine ⟨⟨List.nodup_cons.mpr ⟨List.not_mem_nil, List.nodup_nil⟩, fun r hr => ?_, fun r hr u hu => ?_⟩, ?_⟩
    · rw [List.mem_singleton.mp hr]; exact .inl rfl
    · rw [List.mem_singleton.mp hr] at hu ⊢
      rw [e] at hu
      rw [Int.zero_add]
      exact hu
    · unfold totR rowsR hmW
      show 1 * ((cntW (L - 0) (n / 2 ^ 0 + 0) ((wn n : Int) - 0) : Nat) : Int) + 0 = _
      rw [e, Int.sub_zero, Nat.sub_zero, Int.one_mul, Int.add_zero]
  | p + 1, hp => by
    obtain ⟨g, t⟩ := rows_all L n p (by omega)
    have eq : L - p = (L - (p + 1)) + 1 := by omega
    rw [halfPow n p, eq] at g t
    have N := next_all (L := L) (n := n) (q := L - (p + 1)) (b' := n / 2 ^ (p + 1)) (bit := n / 2 ^ p % 2) (by omega) (rows := rowsR n p) gr_nil g.ky g.rl
    refine ⟨N.1, N.2.trans ?_⟩
    rw [t]
    show totR _ _ _ [] + _ = _
    unfold totR
    simp
theorem tot_hit {b W : Int} {r : Int × Int × Int} : ∀ {rows : List (Int × Int × Int)}, (rows.map (·.1)).Nodup → r ∈ rows → b + r.1 = 0 → r.2.1 = W → totR 0 b W rows = r.2.2
  | [], _, h, _, _ => by cases h
  | x :: rows, nd, h, e1, e2 => by
    rw [List.map_cons, List.nodup_cons] at nd
    have one : ∀ y : Int × Int × Int, y ∈ rows → b + y.1 = 0 → x.1 = y.1 → False := fun y hy _ z => nd.1 (List.mem_map.mpr ⟨y, hy, z.symm⟩)
    unfold totR
    rw [List.map_cons, List.sum_cons]
    rcases List.mem_cons.mp h with z | z
    · subst z
      have rest : (rows.map fun r => r.2.2 * ((cntW 0 (b + r.1) (W - r.2.1) : Nat) : Int)).sum = 0 := by
        have : (rows.map fun r => r.2.2 * ((cntW 0 (b + r.1) (W - r.2.1) : Nat) : Int)) = rows.map fun _ => 0 := List.map_congr_left fun y hy => by
          rw [cntW, if_neg (fun q => one y hy q.1 (by omega))]
          simp
        rw [this]
        clear this one nd h
        induction rows with
        | nil => rfl
        | cons _ _ ih => rw [List.map_cons, List.sum_cons, ih]; rfl
      rw [rest, cntW, if_pos ⟨e1, by omega⟩]
      simp
    · have ih := tot_hit nd.2 z e1 e2
      unfold totR at ih
      rw [ih, cntW, if_neg (fun q => one r z e1 (by omega))]
      simp
theorem tot_miss {b W : Int} : ∀ {rows : List (Int × Int × Int)}, (∀ r ∈ rows, ¬ (b + r.1 = 0 ∧ r.2.1 = W)) → totR 0 b W rows = 0
  | [], _ => rfl
  | x :: rows, h => by
    have ih := tot_miss fun r hr => h r (List.mem_cons_of_mem _ hr)
    unfold totR at *
    rw [List.map_cons, List.sum_cons, ih, cntW, if_neg (fun q => h x List.mem_cons_self ⟨q.1, by omega⟩)]
    simp
end
def tR (H : Hp) (v : V) (x : Int × Int) : Prop := ∃ t, v = .ref t ∧ H t = some (.tup [.int x.1, .int x.2])
theorem tR.same {H H' : Hp} {v : V} {x : Int × Int} (h : tR H v x) (s : Same H H') : tR H' v x := by
  obtain ⟨t, e, h⟩ := h
  exact ⟨t, e, s _ _ h⟩
theorem tR.chgD {a : Addr} {H H' : Hp} {v : V} {x : Int × Int} {kv : List (Key × V)} (h : tR H v x) (ha : H a = some (.dK kv)) (c : Chg a H H') : tR H' v x := by
  obtain ⟨t, e, h⟩ := h
  exact ⟨t, e, c _ _ (ne_of h ha (by intro z; cases z)) h⟩
theorem digs_two (low : Int) : (low % 2 = 0 ∧ digs low = [0]) ∨ (low % 2 = 1 ∧ digs low = [-1, 1]) := by
  unfold digs
  by_cases z : low % 2 = 0
  · exact .inl ⟨z, if_pos z⟩
  · exact .inr ⟨by omega, if_neg z⟩
def spLCount : Sp := fun vs H Q _ => ∃ (n : Int) (P : Nat), vs = [.int n, .int P] ∧ n.natAbs < 2 ^ 3000 ∧ P ≤ 1000 ∧ ∀ H', Same H H' → Q (.int (hmW P n)) H'
end L2
set_option Elab.async false
set_option linter.all false
set_option maxRecDepth 100000
set_option maxHeartbeats 1000000
namespace L2
open PySem PySem.Spec PyProof.Rows
section
variable {X : Cx}
end
end L2
set_option Elab.async false
set_option linter.all false
set_option maxRecDepth 100000
set_option maxHeartbeats 1000000
namespace L2
open PySem PySem.Spec PyProof.Rows PySem.W
def lexB : List Int → List Int → Bool
  | x :: xs, y :: ys => if x = y then lexB xs ys else decide (x < y)
  | _, _ => false
def lsO1 (us : List Value) (c : Nat) (dd : Option Addr) (sl : Array (Option Value)) : Obj := { cls := .type "list", dict := dd, data := .seq us.toArray c, slots := sl }
theorem vint_at {xs : List Int} {us : List Value} (h : Vals (xs.map V.int) us) {i : Nat} {x : Int} (e : xs[i]? = some x) : ∃ t, us[i]? = some (.int x t) := by
  obtain ⟨u, hu, ru⟩ := h.get (i := i) (by rw [List.getElem?_map, e]; rfl)
  obtain ⟨t, rfl⟩ := ru
  exact ⟨t, hu⟩
theorem rc_int {prog : Program} {w : World} {A : Around} {E : Value → Shared → Prop} {s : Shared} {a b : Int} {t u : Tok} {Q : Value → Shared → Prop} (h : Q (.bool (decide (a < b))) s) : wpAny (model prog w) A (richCompare .Lt (.int a t) (.int b u)) Q E s :=
  wpAny_richCompare_same (op := .Lt) (typeIs_int s a t) (typeIs_int s b u) slot_int_lt (call_int_lt ⟨(by intro z; cases z), h⟩)
theorem less_loop {l b : Addr} {us vs : List Value} {c c2 : Nat} {d1 d2 : Option Addr} {q1 q2 : Array (Option Value)} {xs ys : List Int} (hx : Vals (xs.map V.int) us) (hy : Vals (ys.map V.int) vs) (hl : xs.length = ys.length) : ∀ (m i : Nat), xs.length = i + m → xs.drop i ≠ ys.drop i →
    Meets (Builtin.«list.__eq__.loop» ⟨[.ref l, .ref b, rawInt i, rawInt 0], []⟩) (fun A R s => s.heap.get? l = some (lsO1 us c d1 q1) ∧ s.heap.get? b = some (lsO1 vs c2 d2 q2) ∧ R (.ok (.ret (.bool (lexB (xs.drop i) (ys.drop i))))) s)
  | 0, i, hm, hne => absurd (by rw [List.drop_of_length_le (by omega), List.drop_of_length_le (by omega)]) hne
  | m + 1, i, hm, hne => by
    intro prog w A R s ⟨g1, g2, r⟩
    have hi : i < xs.length := by omega
    have hj : i < ys.length := by omega
    obtain ⟨t, e1⟩ := vint_at hx (List.getElem?_eq_getElem hi)
    obtain ⟨u, e2⟩ := vint_at hy (List.getElem?_eq_getElem hj)
    have f1 : us.toArray[((i : Nat) : Int).toNat]? = some (.int xs[i] t) := by rw [Int.toNat_natCast, ← Array.getElem?_toList]; exact e1
    have f2 : vs.toArray[((i : Nat) : Int).toNat]? = some (.int ys[i] u) := by rw [Int.toNat_natCast, ← Array.getElem?_toList]; exact e2
    obtain ⟨hp, g, d, tk, os⟩ := s
    unfold lsO1 at g1 g2
    rw [List.drop_eq_getElem_cons hi, List.drop_eq_getElem_cons hj] at r hne
    wp_walk using AutoSeq1.wpAny_loadPart' g1, AutoSeq1.wpAny_loadPart' g2
    rw [f1, f2]
    refine wpAny_bind (wpAny_eqBool_int ?_)
    by_cases ez : xs[i] = ys[i]
    · rw [beq_iff_eq.mpr ez, if_pos rfl]
      have hne' : xs.drop (i + 1) ≠ ys.drop (i + 1) := fun z => hne (by rw [ez, z])
      rw [lexB, if_pos ez] at r
      have again := less_loop (l := l) (b := b) (c := c) (c2 := c2) (d1 := d1) (d2 := d2) (q1 := q1) (q2 := q2) hx hy hl m (i + 1) (by omega) hne'
      wp_walk
      rw [show ((i : Nat) : Int) + 1 = ((i + 1 : Nat) : Int) by omega]
      refine ⟨plainId_quiet MeetsSeq3.plain_eq_loop _, codeAny_builtin MeetsSeq3.entry_eq_loop ?_⟩
      rw [Around.under_plainId MeetsSeq3.plain_eq_loop _]
      exact again prog w A R _ ⟨g1, g2, r⟩
    · rw [beq_eq_false_iff_ne.mpr ez, if_neg (by decide)]
      rw [lexB, if_neg ez] at r
      wp_walk using AutoSeq1.wpAny_loadPart' g1, AutoSeq1.wpAny_loadPart' g2
      rw [f1, f2]
      refine wpAny_bind (rc_int ?_)
      wp_walk
      exact r
theorem list_less {l b : Addr} {us vs : List Value} {c c2 : Nat} {d1 d2 : Option Addr} {q1 q2 : Array (Option Value)} {xs ys : List Int} (hx : Vals (xs.map V.int) us) (hy : Vals (ys.map V.int) vs) (hl : xs.length = ys.length) (hne : xs ≠ ys) :
    Meets (Builtin.«list.__lt__» ⟨[.ref l, .ref b], []⟩) (fun A R s => s.heap.get? l = some (lsO1 us c d1 q1) ∧ s.heap.get? b = some (lsO1 vs c2 d2 q2) ∧ R (.ok (.ret (.bool (lexB xs ys)))) s) := by
  intro prog w A R s ⟨g1, g2, r⟩
  have start := less_loop (l := l) (b := b) (c := c) (c2 := c2) (d1 := d1) (d2 := d2) (q1 := q1) (q2 := q2) hx hy hl xs.length 0 (by omega) hne
  obtain ⟨hp, g, d, tk, os⟩ := s
  have sl := AutoSeq1.sub_list_list
  unfold lsO1 at g1 g2
  wp_walk using AutoSeq1.wpAny_loadPart' g1, AutoSeq1.wpAny_loadPart' g2
  refine ⟨plainId_quiet MeetsSeq3.plain_eq_loop _, codeAny_builtin MeetsSeq3.entry_eq_loop ?_⟩
  rw [Around.under_plainId MeetsSeq3.plain_eq_loop _]
  exact start prog w A R _ ⟨g1, g2, r⟩
theorem one_less {prog : Program} {w : World} {A : Around} {E : Value → Shared → Prop} {s : Shared} {l b : Addr} {us vs : List Value} {c c2 : Nat} {d1 d2 : Option Addr} {q1 q2 : Array (Option Value)} {xs ys : List Int} (hu : A.units < cLine) (hx : Vals (xs.map V.int) us) (hy : Vals (ys.map V.int) vs) (hl : xs.length = ys.length) (hne : xs ≠ ys) (g1 : s.heap.get? l = some (lsO1 us c d1 q1)) (g2 : s.heap.get? b = some (lsO1 vs c2 d2 q2)) {Q : Bool → Shared → Prop} (h : Q (lexB xs ys) s) :
    wpAny (model prog w) A (oneLt' true (.ref l) (.ref b)) Q E s := by
  rw [oneLt'_eq]
  simp only [if_true]
  refine wpAny_bind (wpAny_cRoomFor hu ?_)
  refine wpAny_bind (wpAny_callSpecialIfBound?_slot (T := "list") ⟨_, g1, rfl⟩ PySem.F.slot_list_lt (call_meets PySem.F.slot_list_lt ⟨_, g1, rfl⟩ PySem.F.entry_list_lt (PySem.F.args_list_lt_2 _ _) (list_less hx hy hl hne) ⟨g1, g2, ?_⟩))
  exact wpAny_truthy_bool h
def kyL : List Int → Int
  | [] => 0
  | d :: r => (d + 1) * 3 ^ r.length + kyL r
def Dgs (L : Nat) (xs : List Int) : Prop := xs.length = L ∧ ∀ d ∈ xs, d = -1 ∨ d = 0 ∨ d = 1
theorem kyL_bd : ∀ {xs : List Int}, (∀ d ∈ xs, d = -1 ∨ d = 0 ∨ d = 1) → 0 ≤ kyL xs ∧ kyL xs < 3 ^ xs.length
  | [], _ => by decide
  | d :: r, h => by
    obtain ⟨h0, h1⟩ := kyL_bd fun d hd => h d (List.mem_cons_of_mem _ hd)
    have hd := h d List.mem_cons_self
    have pp : (0 : Int) < 3 ^ r.length := Int.pow_pos (by decide)
    rw [kyL, List.length_cons, Int.pow_succ]
    generalize (3 : Int) ^ r.length = q at *
    rcases hd with e | e | e <;> subst e <;> omega
theorem kyL_lex : ∀ {xs ys : List Int}, xs.length = ys.length → (∀ d ∈ xs, d = -1 ∨ d = 0 ∨ d = 1) → (∀ d ∈ ys, d = -1 ∨ d = 0 ∨ d = 1) → xs ≠ ys → lexB xs ys = decide (kyL xs < kyL ys) ∧ kyL xs ≠ kyL ys
  | [], [], _, _, _, h => absurd rfl h
  | x :: xs, y :: ys, hl, hx, hy, hne => by
    have hl' : xs.length = ys.length := by simpa using hl
    have bx := kyL_bd fun d hd => hx d (List.mem_cons_of_mem _ hd)
    have hby := kyL_bd fun d hd => hy d (List.mem_cons_of_mem _ hd)
    have pp : (0 : Int) < 3 ^ ys.length := Int.pow_pos (by decide)
    rw [lexB, kyL, kyL, hl']
    rw [hl'] at bx
    have dx := hx x List.mem_cons_self
    have dy := hy y List.mem_cons_self
    by_cases e : x = y
    · subst e
      obtain ⟨ih1, ih2⟩ := kyL_lex hl' (fun d hd => hx d (List.mem_cons_of_mem _ hd)) (fun d hd => hy d (List.mem_cons_of_mem _ hd)) fun z => hne (by rw [z])
      rw [if_pos rfl, ih1]
      exact ⟨decide_eq_decide.mpr (by omega), by omega⟩
    · rw [if_neg e]
      generalize (3 : Int) ^ ys.length = q at *
      refine ⟨decide_eq_decide.mpr ?_, ?_⟩
      · rcases dx with z | z | z <;> rcases dy with z' | z' | z' <;> subst z <;> subst z' <;> omega
      · rcases dx with z | z | z <;> rcases dy with z' | z' | z' <;> subst z <;> subst z' <;> omega
structure Lss (h : Heap) (a : Addr) (vs : List Value) (xss : List (List Int)) : Prop where
  len : xss.length = vs.length
  at_ : ∀ (i : Nat) (v : Value) (xs : List Int), vs[i]? = some v → xss[i]? = some xs → ∃ b us c, v = .ref b ∧ b ≠ a ∧ h.get? b = some (lsO1 us c none #[]) ∧ Vals (xs.map V.int) us
  nd : xss.Nodup
  dg : ∃ L, ∀ xs ∈ xss, Dgs L xs
theorem Lss.keep {h h' : Heap} {a : Addr} {vs : List Value} {xss : List (List Int)} (p : Lss h a vs xss) (hk : ∀ b o, b ≠ a → h.get? b = some o → h'.get? b = some o) : Lss h' a vs xss := ⟨p.len, fun i v xs h1 h2 => by
  obtain ⟨b, us, c, e, hb, hg, hv⟩ := p.at_ i v xs h1 h2
  exact ⟨b, us, c, e, hb, hk b _ hb hg, hv⟩, p.nd, p.dg⟩
section
variable {prog : Program} {w : World} {A : Around} {E : Value → Shared → Prop} {s : Shared} {vs : List Value} {xss : List (List Int)} {a : Addr}
theorem Lss.get {h : Heap} (p : Lss h a vs xss) {i : Nat} (hi : i < vs.length) : ∃ b us c, vs.getD i .none = .ref b ∧ b ≠ a ∧ h.get? b = some (lsO1 us c none #[]) ∧ Vals ((xss.getD i []).map V.int) us := by
  have e1 : vs[i]? = some vs[i] := List.getElem?_eq_getElem hi
  have e2 : xss[i]? = some (xss[i]'(by rw [p.len]; exact hi)) := List.getElem?_eq_getElem _
  rw [List.getD_eq_getElem?_getD, List.getD_eq_getElem?_getD, e1, e2]
  exact p.at_ i _ _ e1 e2
theorem Lss.dif {h : Heap} (p : Lss h a vs xss) {i j : Nat} (hi : i < vs.length) (hj : j < vs.length) (hne : i ≠ j) : lexB (xss.getD i []) (xss.getD j []) = decide (kyL (xss.getD i []) < kyL (xss.getD j [])) ∧ kyL (xss.getD i []) ≠ kyL (xss.getD j []) ∧ (xss.getD i []).length = (xss.getD j []).length ∧ xss.getD i [] ≠ xss.getD j [] := by
  have hi' : i < xss.length := by rw [p.len]; exact hi
  have hj' : j < xss.length := by rw [p.len]; exact hj
  have e1 : xss.getD i [] = xss[i] := by rw [List.getD_eq_getElem?_getD, List.getElem?_eq_getElem hi']; rfl
  have e2 : xss.getD j [] = xss[j] := by rw [List.getD_eq_getElem?_getD, List.getElem?_eq_getElem hj']; rfl
  obtain ⟨L, hL⟩ := p.dg
  have d1 := hL _ (List.getElem_mem hi')
  have d2 := hL _ (List.getElem_mem hj')
  have ne : xss[i] ≠ xss[j] := fun z => hne ((List.getElem_inj p.nd).mp z)
  rw [e1, e2]
  obtain ⟨k1, k2⟩ := kyL_lex (d1.1.trans d2.1.symm) d1.2 d2.2 ne
  exact ⟨k1, k2, d1.1.trans d2.1.symm, ne⟩
theorem ask_lists (hu : A.units < cLine) (p : Lss s.heap a vs xss) (i j : Nat) (C : Bool → Shared → Prop) (hi : i < vs.length) (hj : j < vs.length) (hne : i ≠ j) (h : C (kLt (fun i => kyL (xss.getD i [])) i j) s) : kas_ask prog w A oneType' vs i j C s := by
  obtain ⟨b, us, c, e, _, hb, hv⟩ := p.get hi
  obtain ⟨b', us', c', e', _, hb', hv'⟩ := p.get hj
  obtain ⟨k1, _, k3, k4⟩ := p.dif hi hj hne
  unfold kas_ask
  rw [e, e', keyLt'_oneType]
  refine one_less hu hv hv' k3 k4 hb hb' ?_
  rw [k1]
  exact h
end
structure HLs (H : Hp) (us : List V) (xss : List (List Int)) : Prop where
  len : us.length = xss.length
  at_ : ∀ (k : Nat) (xs : List Int), xss[k]? = some xs → ∃ b : Addr, us[k]? = some (.ref b) ∧ H b = some (.lst (xs.map V.int))
end L2
set_option Elab.async false
set_option linter.all false
set_option maxRecDepth 100000
set_option maxHeartbeats 1000000
namespace L2
open PySem PySem.Spec PyProof.Rows
def wrs : Nat → Int → List (List Int)
  | 0, n => if n = 0 then [[]] else []
  | L + 1, n => (stepsF n (L + 1)).flatMap fun s => (wrs L s.2).map fun r => s.1 :: r
theorem wrs_len : ∀ (L : Nat) (n : Int), ((wrs L n).length : Int) = hmW L n
  | 0, n => by
    rw [hm_0, wrs]
    split <;> rfl
  | L + 1, n => by
    rw [hm_steps, wrs]
    generalize stepsF n (L + 1) = ss
    induction ss with
    | nil => rfl
    | cons s r ih =>
      rw [List.flatMap_cons, List.length_append, List.length_map, List.map_cons, List.sum_cons, ← ih, ← wrs_len L s.2, Int.natCast_add]
theorem steps_dig {n : Int} {p : Nat} {s : Int × Int} (h : s ∈ stepsF n p) : (s.1 = -1 ∨ s.1 = 0 ∨ s.1 = 1) ∧ s.1 + 2 * s.2 = n := by
  unfold stepsF at h
  split at h
  · cases h
  · split at h
    · rw [List.mem_singleton.mp h]
      exact ⟨.inr (.inl rfl), by show 0 + 2 * (n / 2) = n; omega⟩
    · have := (List.mem_filter.mp h).1
      rcases List.mem_cons.mp this with e | e
      · rw [e]
        exact ⟨.inl rfl, by show -1 + 2 * ((n + 1) / 2) = n; omega⟩
      · rw [List.mem_singleton.mp e]
        exact ⟨.inr (.inr rfl), by show 1 + 2 * ((n - 1) / 2) = n; omega⟩
theorem wrs_ok : ∀ (L : Nat) (n : Int) (x : List Int), x ∈ wrs L n → Dgs L x ∧ val x = n
  | 0, n, x, h => by
    rw [wrs] at h
    split at h
    · rw [List.mem_singleton.mp h]
      rename_i z
      exact ⟨⟨rfl, fun d hd => by cases hd⟩, z.symm⟩
    · cases h
  | L + 1, n, x, h => by
    rw [wrs] at h
    obtain ⟨s, hs, hx⟩ := List.mem_flatMap.mp h
    obtain ⟨r, hr, rfl⟩ := List.mem_map.mp hx
    obtain ⟨⟨h1, h2⟩, h3⟩ := wrs_ok L _ _ hr
    obtain ⟨d1, d2⟩ := steps_dig hs
    refine ⟨⟨by rw [List.length_cons, h1], fun d hd => ?_⟩, by rw [val, h3]; exact d2⟩
    rcases List.mem_cons.mp hd with e | e
    · rw [e]; exact d1
    · exact h2 d e
theorem steps_nd (n : Int) (p : Nat) : ((stepsF n p).map (·.1)).Nodup := by
  unfold stepsF
  split
  · exact List.nodup_nil
  · split
    · exact List.nodup_cons.mpr ⟨List.not_mem_nil, List.nodup_nil⟩
    · exact List.Nodup.sublist (List.Sublist.map _ List.filter_sublist) (show ([-1, 1] : List Int).Nodup by decide)
theorem wrs_nd : ∀ (L : Nat) (n : Int), (wrs L n).Nodup
  | 0, n => by
    rw [wrs]
    split
    · exact List.nodup_cons.mpr ⟨List.not_mem_nil, List.nodup_nil⟩
    · exact List.nodup_nil
  | L + 1, n => by
    rw [wrs]
    have hn := steps_nd n (L + 1)
    generalize stepsF n (L + 1) = ss at hn
    induction ss with
    | nil => exact List.nodup_nil
    | cons s r ih =>
      rw [List.map_cons, List.nodup_cons] at hn
      rw [List.flatMap_cons]
      refine List.nodup_append.mpr ⟨?_, ih hn.2, fun a ha b hb => ?_⟩
      · have := wrs_nd L s.2
        rw [List.nodup_iff_pairwise_ne] at this ⊢
        exact List.Pairwise.map _ (fun a b hab z => hab (List.cons.inj z).2) this
      · obtain ⟨x, _, rfl⟩ := List.mem_map.mp ha
        obtain ⟨s', hs', hb'⟩ := List.mem_flatMap.mp hb
        obtain ⟨y, _, rfl⟩ := List.mem_map.mp hb'
        exact fun z => hn.1 (List.mem_map.mpr ⟨s', hs', (List.cons.inj z).1.symm⟩)
theorem HRs.refs {H : Hp} {ex : List Addr} {vs : List V} {rs : List (List Int)} (h : HRs H ex vs rs) {c : List Int} (e : vs = c.map V.int) : c = [] := by
  cases c with
  | nil => rfl
  | cons x c =>
    have l := h.len
    rw [e] at l
    have h0 : 0 < rs.length := by rw [← l]; simp
    obtain ⟨p, e1, _, _⟩ := h.at_ 0 _ (List.getElem?_eq_getElem h0)
    rw [e] at e1
    cases e1
theorem HRs.join {H : Hp} {ex : List Addr} {vs ws : List V} {rs qs : List (List Int)} (h : HRs H ex vs rs) (h' : HRs H ex ws qs) : HRs H ex (vs ++ ws) (rs ++ qs) := by
  refine ⟨by rw [List.length_append, List.length_append, h.len, h'.len], fun k r e => ?_⟩
  rcases Nat.lt_or_ge k rs.length with z | z
  · rw [List.getElem?_append_left z] at e
    obtain ⟨p, e1, e2⟩ := h.at_ k r e
    exact ⟨p, by rw [List.getElem?_append_left (by rw [h.len]; exact z)]; exact e1, e2⟩
  · rw [List.getElem?_append_right z] at e
    obtain ⟨p, e1, e2⟩ := h'.at_ _ r e
    exact ⟨p, by rw [List.getElem?_append_right (by rw [h.len]; exact z), h.len]; exact e1, e2⟩
theorem LL.rows {H : Hp} {l lg : Addr} {zs : List V} {cs rs : List (List Int)} {ex : List Addr} (h : LL H l cs) (hg : H lg = some (.lst zs)) (hz : HRs H ex zs rs) (ne : ∀ c ∈ cs, c ≠ []) : ∃ ws, H l = some (.lst ws) ∧ HRs H [lg] ws cs := by
  obtain ⟨ws, h1, h2, h3⟩ := h
  refine ⟨ws, h1, h2, fun k c e => ?_⟩
  obtain ⟨p, e1, e2, e3⟩ := h3 k c e
  refine ⟨p, e1, e3, fun x hx => ?_⟩
  rw [List.mem_singleton.mp hx]
  intro z
  rw [z, hg] at e3
  have e3 : zs = c.map V.int := by
    have := Option.some.inj e3
    exact HO.lst.inj this
  exact ne c (List.mem_of_getElem? e) (hz.refs e3)
theorem flat_len {α β : Type} {f : α → List β} {n : Nat} : ∀ {xs : List α}, (∀ x ∈ xs, (f x).length ≤ n) → (xs.flatMap f).length ≤ n * xs.length
  | [], _ => Nat.zero_le _
  | x :: xs, h => by
    have h1 := h x List.mem_cons_self
    have h2 := flat_len (f := f) (n := n) (xs := xs) fun x hx => h x (List.mem_cons_of_mem _ hx)
    rw [List.flatMap_cons, List.length_append, List.length_cons, Nat.mul_succ]
    omega
theorem hm_nonneg (L : Nat) (n : Int) : 0 ≤ hmW L n := Int.natCast_nonneg _
theorem sum_ge {f : Int × Int → Int} (hf : ∀ s, 0 ≤ f s) : ∀ {ss : List (Int × Int)} {s : Int × Int}, s ∈ ss → f s ≤ (ss.map f).sum
  | [], _, h => by cases h
  | x :: ss, s, h => by
    have tot : ∀ ss : List (Int × Int), 0 ≤ (ss.map f).sum := fun ss => by
      induction ss with
      | nil => exact Int.le_refl _
      | cons a r ih => rw [List.map_cons, List.sum_cons]; have := hf a; omega
    rw [List.map_cons, List.sum_cons]
    rcases List.mem_cons.mp h with e | e
    · subst e
      have := tot ss
      omega
    · have := sum_ge hf e
      have := hf x
      omega
theorem keyL_hm (P : Nat) (n : Int) : ∀ (i : Nat) (x : Int), i ≤ P → x ∈ keyL P n i → hmW (P - i) x ≤ hmW P n
  | 0, x, _, h => by
    rw [show keyL P n 0 = [n] from rfl, List.mem_singleton] at h
    rw [h]
    exact Int.le_refl _
  | i + 1, x, hi, h => by
    rcases mem_nxts.mp h with z | ⟨r, hr, hx⟩
    · cases z
    · obtain ⟨s, hs, rfl⟩ := List.mem_map.mp hx
      have ih := keyL_hm P n i r (by omega) hr
      rw [show P - i = (P - (i + 1)) + 1 by omega, hm_steps] at ih
      rw [show P - i = (P - (i + 1)) + 1 by omega] at hs
      exact Int.le_trans (sum_ge (f := fun s => hmW (P - (i + 1)) s.2) (fun s => hm_nonneg _ _) hs) ih
theorem HRs.hls {H : Hp} {us : List V} {xss : List (List Int)} (h : HRs H [] us xss) : HLs H us xss := ⟨h.len, fun k xs e => by
  obtain ⟨p, e1, e2, _⟩ := h.at_ k xs e
  exact ⟨p, e1, e2⟩⟩
theorem wrs_map {ks : List Int} {t : Nat} {x : Int} (h : x ∈ ks) (nd : ks.Nodup) : (lk (ks.map fun r => (r, wrs t r)) x).getD [] = wrs t x := by
  have e : (ks.map fun r => (r, wrs t r)).map (·.1) = ks := by rw [List.map_map]; exact List.map_id _
  rw [lk_of_mem (x := wrs t x) (by rw [e]; exact nd) (List.mem_map.mpr ⟨x, h, rfl⟩)]
  rfl
def eR (H : Hp) (v : V) (xss : List (List Int)) : Prop := ∃ l us, v = .ref l ∧ H l = some (.lst us) ∧ HRs H [] us xss
theorem eR.same {H H' : Hp} {v : V} {xss : List (List Int)} (h : eR H v xss) (s : Same H H') : eR H' v xss := by
  obtain ⟨l, us, e, h1, h2⟩ := h
  exact ⟨l, us, e, s _ _ h1, h2.same s⟩
theorem eR.ll {H : Hp} {l : Addr} {xss : List (List Int)} (h : eR H (.ref l) xss) : LL H l xss := by
  obtain ⟨l', us, e, h1, h2⟩ := h
  cases e
  refine ⟨us, h1, h2.len, fun k c hc => ?_⟩
  obtain ⟨p, e1, e2, _⟩ := h2.at_ k c hc
  refine ⟨p, e1, fun z => ?_, e2⟩
  rw [z, h1] at e2
  have e2 : us = c.map V.int := HO.lst.inj (Option.some.inj e2)
  rw [h2.refs e2] at e2
  rw [e2] at e1
  cases e1
def spEnds : Sp := fun vs H Q _ => ∃ (d c : Addr) (o : Obj) (kvs kvc : List (Key × V)) (ks : List Int) (t : Nat) (rows : List (Int × List (List Int))), vs = [.ref d, .ref c] ∧ H d = some (.frz o (.dK kvs)) ∧ DV (stR H) kvs (rowL ks (t + 1)) ∧ ks.Nodup ∧ ks.length ≤ 2 ∧ H c = some (.dK kvc) ∧ DV (eR H) kvc rows ∧ (∀ r ∈ ks, ∀ s ∈ stepsF r (t + 1), (lk rows s.2).getD [] = wrs t s.2) ∧ (∀ r ∈ ks, ∀ s ∈ stepsF r (t + 1), (wrs t s.2).length ≤ 400) ∧ t ≤ 1000 ∧
  ∀ c' kv' H', H c' = none → Same H H' → H' c' = some (.dK kv') → DV (eR H') kv' (ks.map fun r => (r, wrs (t + 1) r)) → Q (.ref c') H'
end L2
set_option Elab.async false
set_option linter.all false
set_option maxRecDepth 100000
set_option maxHeartbeats 1000000
namespace L2
open PySem PySem.Spec PyProof.Rows PySem.W
theorem minRun_le : ∀ (f n r : Nat), r ≤ 1 → minRun' f n r ≤ n + r
  | 0, n, r, _ => Nat.le_refl _
  | f + 1, n, r, hr => by
    rw [minRun'_succ]
    split
    · exact Nat.le_refl _
    · have := minRun_le f (n / 2) (max r (n % 2)) (by omega)
      omega
section
variable {prog : Program} {w : World} {A : Around} {E : Value → Shared → Prop} {κ : SortKind} {it : Array Keyed} {vs : List Value} {s : Shared}
theorem asc_asks {cmp : Nat → Nat → (Bool → Shared → Prop) → Shared → Prop} {n : Nat} (hc : ∀ i C, 1 ≤ i → i < n → C false s → cmp i (i - 1) C s) {p : Array Nat} (hp : ∀ i, i < n → p.getD i 0 = i) {G : Nat → Shared → Prop} : ∀ (f m : Nat), 1 ≤ m → m + f = n → G n s → (kas_asc p f m).kasWp cmp G s
  | 0, m, _, e, g => by
    have : m = n := by omega
    subst this
    exact g
  | f + 1, m, h1, e, g => by
    show cmp (p.getD m 0) (p.getD (m - 1) 0) _ s
    rw [hp m (by omega), hp (m - 1) (by omega)]
    refine hc m _ h1 (by omega) ?_
    show (if false = true then KasT.ret m else kas_asc p f (m + 1)).kasWp cmp G s
    rw [if_neg (by decide)]
    exact asc_asks hc hp f (m + 1) (by omega) (by omega) g
theorem asc_runs {n : Nat} {Q : Unit → SortSt → Shared → Prop} (h2 : 2 ≤ n) (hQ : ∀ st', arrOf st' = (List.toArray (List.range n)).map (kas_item it) → failedOf st' = none → Q () st' s) (hc : ∀ i C, 1 ≤ i → i < n → C false s → kas_cmp prog w A κ it i (i - 1) C s) :
    kasC (model prog w) A E sortRuns' Q (kas_st κ it (List.toArray (List.range n))) s := by
  have rs : (List.toArray (List.range n)).size = n := by simp
  have rg : ∀ i, i < n → (List.toArray (List.range n)).getD i 0 = i := fun i hi => by simp [Array.getD, hi]
  have cnt : (kas_count n (List.toArray (List.range n))).kasWp (kas_cmp prog w A κ it) (fun r s' => r = (n, List.toArray (List.range n)) ∧ s' = s) s := by
    unfold kas_count
    rw [KasT.kasWp_bind]
    refine asc_asks hc rg (n - 1) 1 (Nat.le_refl _) (by omega) ?_
    rw [if_pos (by simp)]
    exact ⟨rfl, rfl⟩
  have ml : ¬ n < minRun' n n 0 := by
    have := minRun_le n n 0 (by omega)
    omega
  have az : (arrOf (kas_st κ it (List.toArray (List.range n)))).size = n := (Array.size_map ..).trans rs
  obtain ⟨r, rfl⟩ : ∃ r, n = r + 2 := ⟨n - 2, by omega⟩
  rw [sortRuns'_eq]
  refine kasC_bind (kasC_get ?_)
  dsimp only
  simp only [az]
  refine kasC_bind (kasC_range ?_)
  show kasC _ _ _ (forIn (0 :: 1 :: List.range' 2 r) _ _) _ _ _
  refine kasC_cons ?_
  dsimp only
  rw [if_neg (by omega)]
  simp only [Nat.sub_zero]
  refine kasC_bind (kas_count_ (by omega) (Nat.le_of_eq rs.symm) (fun m p' s' _ _ _ hg => ?_) cnt)
  obtain ⟨e1, rfl⟩ := hg
  cases e1
  dsimp only
  rw [if_neg ml]
  refine kasC_bind (kasC_get ?_)
  rw [show (pendingOf (kas_st κ it (List.toArray (List.range (r + 2))))).back? = none from rfl]
  dsimp only
  refine kasC_bind (kasC_modify (kasC_pure ?_))
  show kasC _ _ _ (forIn (1 :: List.range' 2 r) _ _) _ _ _
  refine kasC_cons ?_
  dsimp only
  simp only [Nat.zero_add]
  rw [if_pos (Nat.le_refl _)]
  refine kasC_pure ?_
  dsimp only
  refine kasC_bind (kasC_range ?_)
  show kasC _ _ _ (forIn (0 :: 1 :: List.range' 2 r) _ _) _ _ _
  refine kasC_cons (kasC_bind (kasC_get ?_))
  rw [if_pos (show (pendingOf (setPending (kas_st κ it (List.toArray (List.range (r + 2)))) ((pendingOf (kas_st κ it (List.toArray (List.range (r + 2))))).push (0, r + 2, 0)))).size ≤ 1 from Nat.le_refl 1)]
  exact kasC_pure (kasC_pure (hQ _ rfl rfl))
theorem asc_run {Q : SortSt → Shared → Prop} (h2 : 2 ≤ vs.length) (hQ : ∀ st', arrOf st' = (List.toArray (List.range vs.length)).map (kas_item (vs.toArray.zip vs.toArray)) → failedOf st' = none → Q st' s) (hc : ∀ i C, 1 ≤ i → i < vs.length → C false s → kas_ask prog w A κ vs i (i - 1) C s) :
    wpAny (model prog w) A ((sortRuns').run (SortSt.mk' κ (vs.toArray.zip vs.toArray) #[] 7 none)) (fun r s' => Q r.2 s') E s := by
  rw [kat_ask_eq (ks := vs) (vs := vs) rfl] at hc
  have run := asc_runs (E := E) (Q := fun _ st' s' => Q st' s') h2 hQ hc
  have er := kas_range (vs.toArray.zip vs.toArray)
  rw [show (vs.toArray.zip vs.toArray).size = vs.length by simp] at er
  have est : SortSt.mk' κ (vs.toArray.zip vs.toArray) #[] 7 none = kas_st κ (vs.toArray.zip vs.toArray) (List.toArray (List.range vs.length)) := by
    show _ = SortSt.mk' κ ((List.toArray (List.range vs.length)).map (kas_item (vs.toArray.zip vs.toArray))) #[] 7 none
    rw [er]
  rw [est]
  exact run
variable {xss : List (List Int)} {a : Addr}
theorem list_sort_asc {a : Addr} {n : Nat} {P : PySem.Fin → Shared → Prop} (ho : s.heap.get? a = some (seqObj "list" vs.toArray n)) (hu : A.units < cLine) (p : Lss s.heap a vs xss) (h64 : vs.length ≤ 1000) (asc : ∀ i, 1 ≤ i → i < vs.length → kyL (xss.getD (i - 1) []) < kyL (xss.getD i []))
    (h : P (.done (.ret .none)) { s with heap := sortedHeap s.heap a vs vs.toArray }) :
    wpAny (model prog w) A (Builtin.«list.sort» ⟨[.ref a], []⟩) P E s := by
  rw [list_sort_plain]
  have ha : a < s.heap.objs.size := Heap.lt_size ho
  refine wpAny_bind (listItems_at ho rfl ?_)
  refine wpAny_bind (listUpdate_at ho rfl ?_ (by rw [List.size_toArray, sizeLine_eq]; omega) (Nat.zero_le _))
  obtain ⟨e1, ho1⟩ : ∃ e1, (s.heap.update a (Obj.mapSeq fun _ => (#[] : Array Value))).get? a = some (seqObj "list" #[] e1) := ⟨_, get?_update_seq ho fun _ => #[]⟩
  refine wpAny_bind (seqEpoch_at ho1 rfl ?_)
  refine wpAny_bind (wpAny_newTuple ?_ (by show vs.length ≤ _; rw [sizeLine_eq]; omega))
  refine wpAny_bind (wpAny_newList ?_ (Nat.zero_le _))
  refine wpAny_holding ?_
  have ho6 : (((s.heap.update a (Obj.mapSeq fun _ => (#[] : Array Value))).push (seqObj "tuple" vs.toArray 0)).push (seqObj "list" #[] 0)).get? a = some (seqObj "list" #[] e1) := by
    rw [Heap.get?_push_ne _ _ _ (by rw [size_push', Heap.size_update]; exact Nat.ne_of_lt (Nat.lt_succ_of_lt ha)), Heap.get?_push_ne _ _ _ (by rw [Heap.size_update]; exact Nat.ne_of_lt ha)]
    exact ho1
  have p6 : Lss (((s.heap.update a (Obj.mapSeq fun _ => (#[] : Array Value))).push (seqObj "tuple" vs.toArray 0)).push (seqObj "list" #[] 0)) a vs xss := p.keep fun b o hb e =>
    Heap.get?_push_of_some _ (Heap.get?_push_of_some _ ((Heap.get?_update_other _ _ (Ne.symm hb)).trans e))
  show wpAny (model prog w) A _ P E { s with heap := ((s.heap.update a (Obj.mapSeq fun _ => (#[] : Array Value))).push (seqObj "tuple" vs.toArray 0)).push (seqObj "list" #[] 0) }
  dsimp only
  have e0 : ((List.range vs.length).map fun i => vs.getD i Value.none) = vs := by
    apply List.ext_getElem?
    intro i
    rw [List.getElem?_map]
    by_cases hi : i < vs.length
    · rw [List.getElem?_range hi, List.getElem?_eq_getElem hi]
      simp [hi]
    · rw [List.getElem?_eq_none (by rw [List.length_range]; omega), List.getElem?_eq_none (by omega)]
      rfl
  by_cases h2 : vs.toArray.size < 2
  · rw [if_pos h2, if_pos h2]
    refine wpAny_bind (wpAny_pure ?_)
    rw [StateT.run_pure]
    refine wpAny_bind (wpAny_pure ?_)
    dsimp only
    refine wpAny_bind (seqEpoch_at ho6 rfl ?_)
    have e1' : (vs.toArray.zip vs.toArray).map (·.2) = ((List.range vs.length).map fun i => vs.getD i Value.none).toArray := by
      rw [e0]
      apply Array.toList_inj.mp
      have : ∀ l : List Value, (l.zip l).map (fun x => x.2) = l := fun l => by
        induction l with
        | nil => rfl
        | cons x r ih => rw [List.zip_cons_cons, List.map_cons, ih]
      simpa using this vs
    refine wpAny_bind (listUpdate_at ho6 rfl ?_ (Nat.zero_le _) (by rw [Array.size_map]; show (pairsOf vs).size ≤ _; rw [pairsOf_size, sizeLine_eq]; omega))
    simp only [bne_self_eq_false, Bool.false_eq_true, if_false]
    refine wpAny_pure ?_
    rw [e0] at e1'
    rw [← e1'] at h
    exact h
  · rw [if_neg h2, if_neg h2]
    have hv2 : 2 ≤ vs.length := by
      have : ¬ vs.length < 2 := by simpa using h2
      omega
    refine wpAny_bind (kas_kind (T := .type "list") hv2 (fun v hv => ?_) (by decide) (by decide) ?_)
    · obtain ⟨i, hi⟩ := List.getElem?_of_mem hv
      have hil := (List.getElem?_eq_some_iff.mp hi).1
      obtain ⟨b, us, c, e, _, hb, _⟩ := p6.at_ i v _ hi (List.getElem?_eq_getElem (by rw [p.len]; exact hil))
      subst e
      exact fun A Q E s' k q => wpAny_typeOf ⟨_, k _ _ hb, rfl⟩ q
    refine wpAny_bind (wpAny_mono (asc_run (vs := vs) (κ := oneType') (Q := fun st' s' => s' = { s with heap := ((s.heap.update a (Obj.mapSeq fun _ => (#[] : Array Value))).push (seqObj "tuple" vs.toArray 0)).push (seqObj "list" #[] 0) } ∧ arrOf st' = (List.toArray (List.range vs.length)).map (kas_item (vs.toArray.zip vs.toArray)) ∧ failedOf st' = none)
      hv2 (fun st' a2 a3 => ⟨rfl, a2, a3⟩) fun i C h1 h2 hC => ?_) ?_ fun _ _ e => e)
    · refine ask_lists (hu := hu) (s := { s with heap := ((s.heap.update a (Obj.mapSeq fun _ => (#[] : Array Value))).push (seqObj "tuple" vs.toArray 0)).push (seqObj "list" #[] 0) }) p6 i (i - 1) C h2 (by omega) (by omega) ?_
      have := asc i h1 h2
      rw [show kLt (fun i => kyL (xss.getD i [])) i (i - 1) = false from decide_eq_false (by show ¬ kyL (xss.getD i []) < kyL (xss.getD (i - 1) []); omega)]
      exact hC
    rintro ⟨⟨⟩, st'⟩ s' ⟨rfl, har, hf⟩
    dsimp only
    have hout := kat_snds rfl har
    refine wpAny_bind (seqEpoch_at ho6 rfl ?_)
    have hsz : ((arrOf st').map (·.2)).size ≤ sizeLine := by
      rw [hout, List.size_toArray, List.length_map, Array.length_toList, List.size_toArray, List.length_range, sizeLine_eq]
      omega
    refine wpAny_bind (listUpdate_at ho6 rfl ?_ (Nat.zero_le _) (Nat.le_succ_of_le hsz))
    rw [hf]
    simp only [bne_self_eq_false, Bool.false_eq_true, if_false]
    refine wpAny_pure ?_
    rw [List.toList_toArray, e0] at hout
    rw [← hout] at h
    exact h
end
def rSortAs : List V → Hp → VK → Prop := fun xs H Q => ∃ (a : Addr) (us : List V) (xss : List (List Int)) (L : Nat), xs = [.ref a] ∧ H a = some (.lst us) ∧ HLs H us xss ∧ us.length ≤ 1000 ∧ xss.Nodup ∧ (∀ x ∈ xss, Dgs L x) ∧ (∀ i, 1 ≤ i → i < us.length → kyL (xss.getD (i - 1) []) < kyL (xss.getD i [])) ∧ ∀ l H', H l = none → Same H H' → H' l = some (.lst us) → Q (.ref l) H'
theorem call_sortAs {X : Cx} {k : Nat} (hr : Room k X.A) : CallR X (.builtin "sorted") rSortAs := by
  intro pins s σ H xs vs Q I r h
  obtain ⟨a, us, xss, L, rfl, ha, hx, h64, nd, dg, asc, q⟩ := h
  obtain ⟨u, rfl, ru⟩ := vals1 r
  cases ru
  obtain ⟨hz, its, c, rv, hl, ho⟩ := I.lstM ha
  refine Calls.call_function_entry kind_sorted plain_sorted entry_sorted (args_sorted1 _) ?_
  unfold Builtin.«sorted»
  refine wpAny_bind (m := checkCount "sorted" 1 1 _) (wpAny_pure ?_)
  refine wpAny_bind (collect_list (vs := its) ⟨_, ho, rfl, c, rfl⟩ ?_ (le_size (by omega)))
  refine wpAny_bind (wpAny_newList ?_ (le_size (by omega)))
  have hsz : ((s.heap.push (seqObj "list" #[] 0)).update s.heap.objs.size (Obj.mapSeq fun x => x ++ its.toArray)).objs.size = s.heap.objs.size + 1 := by rw [Heap.size_update, size_push']
  have old : ∀ b o, s.heap.get? b = some o → (((s.heap.push (seqObj "list" #[] 0)).update s.heap.objs.size (Obj.mapSeq fun x => x ++ its.toArray)).push (seqObj "list" its.toArray 0)).get? b = some o := fun b o e => by
    have bl := Heap.lt_size e
    refine Heap.get?_push_of_some _ ?_
    rw [Heap.get?_update_ne _ _ _ _ (Nat.ne_of_lt bl)]
    exact Heap.get?_push_of_some _ e
  have hoL : (((s.heap.push (seqObj "list" #[] 0)).update s.heap.objs.size (Obj.mapSeq fun x => x ++ its.toArray)).push (seqObj "list" its.toArray 0)).get? (s.heap.objs.size + 1) = some (seqObj "list" its.toArray 0) := hsz ▸ Heap.get?_push_size _ rfl
  have lss : Lss (((s.heap.push (seqObj "list" #[] 0)).update s.heap.objs.size (Obj.mapSeq fun x => x ++ its.toArray)).push (seqObj "list" its.toArray 0)) (s.heap.objs.size + 1) its xss := by
    refine ⟨by rw [← hl, hx.len], fun i v xs h1 h2 => ?_, nd, L, dg⟩
    obtain ⟨b, e1, e2⟩ := hx.at_ i xs h2
    obtain ⟨u, hu, ru⟩ := rv.get e1
    rw [h1] at hu
    cases hu
    cases ru
    obtain ⟨z2, its2, c2, rv2, hl2, ho2⟩ := I.lstM e2
    exact ⟨b, its2, c2, rfl, Nat.ne_of_lt (Nat.lt_succ_of_lt (Heap.lt_size ho2)), old b _ ho2, rv2⟩
  have hu : X.A.in1.in1.units < cLine := by
    have := hr.units
    show X.A.units + 1 + 1 < cLine
    omega
  rw [hsz]
  refine wpAny_bind (wpAny_holding (wpAny_call_entry slot_list_sort ⟨_, hoL, rfl⟩ entry_list_sort (list_sort_asc hoL hu lss (by omega) (fun i h1 h2 => asc i h1 (by omega)) ⟨_, rfl, ?_⟩) (args_list_sort _)))
  obtain ⟨e, he⟩ := sortedAll_at s.heap its its.toArray
  refine wpAny_pure ⟨_, rfl, ?_⟩
  have IN := I.laid (h' := sortedAll s.heap its its.toArray) (t' := s.toks) (fun b o q => sortedAll_old q) (Nat.le_succ s.heap.objs.size) (show ObjOk X.prog X.w _ _ (s.heap.objs.size + 1) (.lst us) from ⟨le_size (by omega), _, e, rv, he⟩)
  exact ⟨.ref (s.heap.objs.size + 1), _, IN, rfl, q _ _ (I.hok.fresh (Nat.le_succ _)) (same_new (I.hok.fresh (Nat.le_succ _)) _) upd_same⟩
end L2
set_option Elab.async false
set_option linter.all false
set_option maxRecDepth 100000
set_option maxHeartbeats 1000000
namespace L2
open PySem PySem.Spec PyProof.Rows
end L2
set_option Elab.async false
set_option linter.all false
set_option maxRecDepth 100000
set_option maxHeartbeats 1000000
namespace L2
open PySem PySem.Spec PyProof.Rows
section
variable {prog : Program} {w : World} {A : Around} {E : Value → Shared → Prop}
end
end L2
set_option Elab.async false
set_option linter.all false
set_option maxRecDepth 100000
set_option maxHeartbeats 1000000
namespace L2
open PySem PySem.Spec PyProof.Rows
inductive Tg where
  | f (x : V)
  | l (xs : List Tg)
  | t (xs : List Tg)
  | d (xs : List Tg)
section
variable {X : Cx} {pins : List (Addr × Obj)} {σ : St} {H : Hp} {s : Shared}
end
abbrev FSt := Int × Int × Int
def mx1 (d st : Int) : Int := (d + 40692 * st * st + 69621 * st) % 2147483647
def mx2 (m st : Int) : Int := (m * m + 39373 * m + st) % 2147483579
def mx3 (m : Int) : Int := (m * m + 16807 * m) % 2147483549
def tkS (m : Int) (s : FSt) : Int × FSt := if s.1 > 0 then (s.1 % m, (s.1 / m, s.2.1, s.2.2)) else (mx3 (mx2 (mx1 s.2.1 (s.2.2 + 1)) (s.2.2 + 1)) / 64 % m, (s.1, s.2.1, s.2.2 + 1))
def tk : Nat → Int → FSt → Int × FSt
  | 0, _, s => (0, s)
  | n + 1, m, s => if m > 10000000 then (((tk n (m / 1000000 + 1) s).1 * 1000000 + (tk n 1000000 (tk n (m / 1000000 + 1) s).2).1) % m, (tk n 1000000 (tk n (m / 1000000 + 1) s).2).2) else tkS m s
def pk (xs : List Int) (i : Int) : Int := xs.getD i.toNat 0
def pkV (xs : List V) (i : Int) : V := xs.getD i.toNat .non
def txs : List V := [.str (Str.ofString ""), .str (Str.ofString "0"), .str (Str.ofString "7"), .str (Str.ofString "-1"), .str (Str.ofString "True"), .str (Str.ofString "None")]
def flt (way : Int) (s : FSt) : Tg × FSt :=
  if way < 3 then (.f (.int (tk 10 (pk [3, 1000, 10 ^ 60] way) s).1), (tk 10 (pk [3, 1000, 10 ^ 60] way) s).2)
  else if way < 5 then (.f (.int (-(tk 10 (pk [9, 10 ^ 60] (way - 3)) s).1)), (tk 10 (pk [9, 10 ^ 60] (way - 3)) s).2)
  else if way = 5 then (.f (pkV [.bl true, .bl false, .non] (tk 10 3 s).1), (tk 10 3 s).2)
  else (.f (pkV txs (tk 10 6 s).1), (tk 10 6 s).2)
def knd (way : Int) (gs : List Tg) : Tg := if way = 7 then .l gs else if way = 8 then .t gs else .d gs
section
variable {σ : St} {H : Hp} {Q : VK} {cs : List Nat} {te : TE}
end
section
variable {σ : St} {H : Hp} {Q : VK} {cs : List Nat} {te : TE}
end
end L2
set_option Elab.async false
set_option linter.all false
set_option maxRecDepth 100000
set_option maxHeartbeats 1000000
namespace L2
open PySem PySem.Spec PyProof.Rows PySem.W
theorem asc_flat {L : Nat} {g : Int × Int → List (List Int)} (hg : ∀ s x, x ∈ g s → Dgs L x) (hp : ∀ s, (g s).Pairwise fun x y => kyL x < kyL y) : ∀ (ss : List (Int × Int)), (ss.map (·.1)).Pairwise (· < ·) → (ss.flatMap fun s => (g s).map fun r => s.1 :: r).Pairwise fun x y => kyL x < kyL y
  | [], _ => List.Pairwise.nil
  | s :: ss, h => by
    rw [List.map_cons, List.pairwise_cons] at h
    rw [List.flatMap_cons, List.pairwise_append]
    refine ⟨?_, asc_flat hg hp ss h.2, fun a ha b hb => ?_⟩
    · rw [List.pairwise_map]
      refine List.Pairwise.imp_of_mem (fun {x y} hx hy q => ?_) (hp s)
      rw [kyL, kyL, (hg s x hx).1, (hg s y hy).1]
      omega
    · obtain ⟨x, hx, rfl⟩ := List.mem_map.mp ha
      obtain ⟨s', hs', hb'⟩ := List.mem_flatMap.mp hb
      obtain ⟨y, hy, rfl⟩ := List.mem_map.mp hb'
      have lt := h.1 s'.1 (List.mem_map.mpr ⟨s', hs', rfl⟩)
      obtain ⟨lx, dx⟩ := hg s x hx
      obtain ⟨ly, dy⟩ := hg s' y hy
      have bx := kyL_bd dx
      have by_ := kyL_bd dy
      rw [kyL, kyL, lx, ly]
      rw [lx] at bx
      rw [ly] at by_
      have : (s.1 + 1) * 3 ^ L + 3 ^ L ≤ (s'.1 + 1) * 3 ^ L := by
        have h1 : (s.1 + 1 + 1) * (3 : Int) ^ L ≤ (s'.1 + 1) * 3 ^ L := Int.mul_le_mul_of_nonneg_right (by omega) (Int.le_of_lt (Int.pow_pos (by decide)))
        rw [Int.add_mul (s.1 + 1) 1, Int.one_mul] at h1
        exact h1
      omega
theorem steps_asc (n : Int) (p : Nat) : ((stepsF n p).map (·.1)).Pairwise (· < ·) := by
  unfold stepsF
  split
  · exact List.Pairwise.nil
  · split
    · exact List.pairwise_singleton _ _
    · exact List.Pairwise.sublist (List.Sublist.map _ List.filter_sublist) (show ([-1, 1] : List Int).Pairwise (· < ·) by decide)
theorem wrs_asc : ∀ (L : Nat) (n : Int), (wrs L n).Pairwise fun x y => kyL x < kyL y
  | 0, n => by
    rw [wrs]
    split
    · exact List.pairwise_singleton _ _
    · exact List.Pairwise.nil
  | L + 1, n => by
    rw [wrs]
    exact asc_flat (g := fun s => wrs L s.2) (fun s x h => (wrs_ok L _ _ h).1) (fun s => wrs_asc L _) _ (steps_asc _ _)
theorem wrs_asc1 {L : Nat} {n : Int} {i : Nat} (h1 : 1 ≤ i) (h2 : i < (wrs L n).length) : kyL ((wrs L n).getD (i - 1) []) < kyL ((wrs L n).getD i []) := by
  have := List.pairwise_iff_getElem.mp (wrs_asc L n) (i - 1) i (by omega) h2 (by omega)
  rw [List.getD_eq_getElem?_getD, List.getD_eq_getElem?_getD, List.getElem?_eq_getElem (by omega : i - 1 < _), List.getElem?_eq_getElem h2]
  exact this
def rLtL : R2 := fun x y H Q => ∃ (p q : Addr) (xs ys : List Int), x = .ref p ∧ y = .ref q ∧ H p = some (.lst (xs.map V.int)) ∧ H q = some (.lst (ys.map V.int)) ∧ xs.length = ys.length ∧ xs ≠ ys ∧ Q (.bl (lexB xs ys)) H
theorem op_ltL {X : Cx} {k : Nat} (hr : Room k X.A) : OpR X (compareOp .Lt) rLtL := by
  intro pins s σ H x y v u Q I rx ry h
  obtain ⟨p, q, xs, ys, rfl, rfl, hp, hq, hl, hne, hQ⟩ := h
  cases rx
  cases ry
  obtain ⟨hz, its, c, rv, hl1, ho⟩ := I.lstM hp
  obtain ⟨hz2, its2, c2, rv2, hl2, ho2⟩ := I.lstM hq
  have hu : X.A.units < cLine := by have := hr.units; omega
  refine wpAny_richCompare_same_room (op := .Lt) (T := "list") ⟨_, ho, rfl⟩ ⟨_, ho2, rfl⟩ PySem.F.slot_list_lt (call_meets PySem.F.slot_list_lt ⟨_, ho, rfl⟩ PySem.F.entry_list_lt (PySem.F.args_list_lt_2 _ _) (list_less rv rv2 hl hne) ⟨ho, ho2, ?_⟩) hu
  exact ⟨(fun z => nomatch z), .bl _, H, I, rfl, hQ⟩
theorem wn_16 (a : Int) : wn (16 * a + 3) = wn a + 2 := by
  rw [show 16 * a + 3 = 4 * (4 * a + 1) - 1 by omega, wn_3, wn_1]
  omega
theorem hm_16 (L : Nat) (a : Int) : 2 * hmW L a ≤ hmW (L + 4) (16 * a + 3) := by
  unfold hmW
  rw [wn_16]
  have e1 : cntW (L + 4) (16 * a + 3) ((wn a + 2 : Nat) : Int) = cntW (L + 3) (8 * a + 2) ((wn a : Int) + 1) + cntW (L + 3) (8 * a + 1) ((wn a : Int) + 1) := by
    rw [cntW_odd (by omega), show (16 * a + 3 + 1) / 2 = 8 * a + 2 by omega, show (16 * a + 3 - 1) / 2 = 8 * a + 1 by omega, show ((wn a + 2 : Nat) : Int) - 1 = (wn a : Int) + 1 by omega]
  have e2 : cntW (L + 3) (8 * a + 2) ((wn a : Int) + 1) = cntW (L + 2) (4 * a + 1) ((wn a : Int) + 1) := by
    rw [cntW_even (by omega), show (8 * a + 2) / 2 = 4 * a + 1 by omega]
  have e3 : cntW (L + 2) (4 * a + 1) ((wn a : Int) + 1) = cntW (L + 1) (2 * a + 1) (wn a) + cntW (L + 1) (2 * a) (wn a) := by
    rw [cntW_odd (by omega), show (4 * a + 1 + 1) / 2 = 2 * a + 1 by omega, show (4 * a + 1 - 1) / 2 = 2 * a by omega, show (wn a : Int) + 1 - 1 = wn a by omega]
  have e4 : cntW (L + 1) (2 * a) (wn a) = cntW L a (wn a) := by
    rw [cntW_even (by omega), show 2 * a / 2 = a by omega]
  have e5 : cntW (L + 3) (8 * a + 1) ((wn a : Int) + 1) = cntW (L + 2) (4 * a + 1) (wn a) + cntW (L + 2) (4 * a) (wn a) := by
    rw [cntW_odd (by omega), show (8 * a + 1 + 1) / 2 = 4 * a + 1 by omega, show (8 * a + 1 - 1) / 2 = 4 * a by omega, show (wn a : Int) + 1 - 1 = wn a by omega]
  have e6 : cntW (L + 2) (4 * a) (wn a) = cntW L a (wn a) := by
    rw [cntW_even (by omega), show 4 * a / 2 = 2 * a by omega, e4]
  rw [e1, e2, e3, e4, e5, e6]
  push_cast
  omega
def threes : Nat → Int
  | 0 => 0
  | m + 1 => 16 * threes m + 3
theorem threes_eq : ∀ m : Nat, 5 * threes m = 2 ^ (4 * m) - 1
  | 0 => rfl
  | m + 1 => by
    have ih := threes_eq m
    rw [threes, show 4 * (m + 1) = 4 * m + 4 by omega, Int.pow_add]
    omega
theorem hm_threes : ∀ m : Nat, 2 ^ m ≤ hmW (4 * m + 2) (threes m)
  | 0 => by rw [threes, hm_zero]; decide
  | m + 1 => by
    have ih := hm_threes m
    have := hm_16 (4 * m + 2) (threes m)
    rw [show 4 * (m + 1) + 2 = 4 * m + 2 + 4 by omega, threes, Int.pow_succ]
    omega
theorem many_threes {m : Nat} (h : 20 ≤ m) : 300 < hmW (4 * m + 2) (threes m) := by
  have h1 := hm_threes m
  have h2 : (2 : Int) ^ 20 ≤ 2 ^ m := by
    have : (2 : Nat) ^ 20 ≤ 2 ^ m := Nat.pow_le_pow_right (by decide) h
    exact_mod_cast this
  have h3 : (2 : Int) ^ 20 = 1048576 := by decide
  omega
def NoLst (H H' : Hp) : Prop := ∀ b o, H b = some o → (∀ xs, o ≠ .lst xs) → H' b = some o
theorem Same.noLst {H H' : Hp} (s : Same H H') : NoLst H H' := fun b o e _ => s b o e
theorem NoLst.trans {H H1 H2 : Hp} (a : NoLst H H1) (b : NoLst H1 H2) : NoLst H H2 := fun c o e n => b c o (a c o e n) n
theorem NoLst.pen {H H' : Hp} {p a : Addr} {c : Int} (s : NoLst H H') (h : Pen H p a c) : Pen H' p a c := by
  obtain ⟨t, x, e, r⟩ := h
  exact ⟨t, x, s _ _ e (fun xs z => by cases z), r⟩
theorem NoLst.scr {K : PySem.W.Frag} {H H' : Hp} {a : Addr} {ns : List Int} (s : NoLst H H') (h : Scr K H a ns) : Scr K H' a ns := by
  rcases h with ⟨o, h⟩ | h
  · exact .inl ⟨o, s _ _ h (fun xs z => by cases z)⟩
  · exact .inr h
def spWritX (M : Addr) : Sp := fun vs H Q E => ∃ (n : Int) (P : Nat), vs = [.int n, .int P] ∧ n.natAbs < 2 ^ 3000 ∧ P ≤ 1000 ∧ (300 < hmW P n → ∀ H', Same H H' → E (.ref M) none H') ∧
  (hmW P n ≤ 300 → ∀ l us H', H l = none → Same H H' → H' l = some (.lst us) → HRs H' [] us (wrs P n) → Q (.ref l) H')
def spTooM : Sp := fun vs H Q _ => ∃ (n : Int) (P : Nat), vs = [.int n, .int P] ∧ n.natAbs < 2 ^ 3000 ∧ P ≤ 1000 ∧ 300 < hmW P n ∧ ∀ H', Same H H' → Q (.bl true) H'
end L2
set_option Elab.async false
set_option linter.all false
set_option maxRecDepth 100000
set_option maxHeartbeats 1000000
namespace L2
open PySem PySem.Spec PyProof.Rows PySem.W
theorem wrs_wt : ∀ (L : Nat) (n : Int) (x : List Int), x ∈ wrs L n → wt x = wn n
  | 0, n, x, h => by
    rw [wrs] at h
    split at h
    · rename_i z
      rw [List.mem_singleton.mp h, z]
      rfl
    · cases h
  | L + 1, n, x, h => by
    rw [wrs] at h
    obtain ⟨s, hs, hx⟩ := List.mem_flatMap.mp h
    obtain ⟨r, hr, rfl⟩ := List.mem_map.mp hx
    have ih := wrs_wt L _ _ hr
    rw [wt_cons, ih]
    unfold stepsF at hs
    split at hs
    · cases hs
    · split at hs
      · rename_i ev
        rw [List.mem_singleton.mp hs]
        show (if (0 : Int) = 0 then 0 else 1) + wn (n / 2) = wn n
        rw [if_pos rfl, wn_half ev]
        omega
      · rename_i od
        obtain ⟨h1, h2⟩ := List.mem_filter.mp hs
        have h2 := of_decide_eq_true h2
        rcases List.mem_cons.mp h1 with e | e
        · rw [e] at h2 ⊢
          have := wn_odd1 od
          show (if (-1 : Int) = 0 then 0 else 1) + wn ((n + 1) / 2) = wn n
          rw [if_neg (by decide)]
          have h2 : wn ((n + 1) / 2) < wn n := h2
          omega
        · rw [List.mem_singleton.mp e] at h2 ⊢
          have := wn_odd2 od
          show (if (1 : Int) = 0 then 0 else 1) + wn ((n - 1) / 2) = wn n
          rw [if_neg (by decide)]
          have h2 : wn ((n - 1) / 2) < wn n := h2
          omega
theorem eq_lr {K : PySem.W.Frag} {H : Hp} {ex ex' : List Addr} {l l' : Addr} {vs vs' : List V} {rs : List (List Int)} {Q : VK} (h : H l = some (.lst vs)) (hr : HRs H ex vs rs) (h' : H l' = some (.lst vs')) (hr' : HRs H ex' vs' rs) (q : Q (.bl true) H) : rEqD K (.ref l) (.ref l') H Q :=
  ⟨l, _, _, rfl, lr_is h hr, lr_is h' hr', by have := depL_lr rs; unfold lrDt; rw [dep]; omega, by rw [deq_refl _ (lr_is (K := K) h hr)]; exact q⟩
structure CpR (H0 H : Hp) (vs : List V) (rs : List (List Int)) : Prop where
  len : vs.length = rs.length
  at_ : ∀ (k : Nat) (r : List Int), rs[k]? = some r → ∃ p : Addr, vs[k]? = some (.ref p) ∧ H0 p = none ∧ H p = some (.lst (r.map V.int))
section
variable {σ : St} {H : Hp} {Q : VK} {cs : List Nat} {te : TE} {K : PySem.W.Frag}
theorem comp_cp {l : Addr} {us : List V} {rs : List (List Int)} (hl : H l = some (.lst us)) (h : HRs H [] us rs) (hz : rs.length ≤ 1000)
    (hb : ∀ (p : Addr) r H' (R : VK), r ∈ rs → H' p = some (.lst (r.map V.int)) → Same H H' → (∀ q, H' q = none → R (.ref q) (upd H' q (.lst (r.map V.int)))) → te (some (.ref p) :: capV cs σ) H' R)
    (hd : ∀ acc ws H', H acc = none → Same H H' → H' acc = some (.lst ws) → CpR H H' ws rs → Q (.ref acc) H') : CompIt (Itl K l) 1 cs (gName 0) tYes te σ H Q := by
  refine comp_any rs.length (fun acc i ws H' => Same H H' ∧ H' acc = some (.lst ws) ∧ ws.length = i ∧ ∀ (j : Nat) (c : List Int), j < i → rs[j]? = some c → ∃ p, ws[j]? = some (.ref p) ∧ p ≠ acc ∧ H p = none ∧ H' p = some (.lst (c.map V.int))) (le_size hz) ?_ ?_ ?_ ?_ ?_ ?_
  · rintro acc i ws H' hi ⟨s, _⟩
    exact ⟨us, us[i]'(by rw [h.len]; exact hi), SqL.of (s _ _ hl), List.getElem?_eq_getElem _⟩
  · rintro acc ws H' ⟨s, _⟩
    exact ⟨us, SqL.of (s _ _ hl), by rw [h.len]; exact Nat.le_refl _⟩
  · intro acc ha
    exact ⟨same_new ha _, upd_same, rfl, fun j c hj => by omega⟩
  · rintro acc i ws H' ⟨_, ha, hw, _⟩
    exact ⟨ha, by omega⟩
  · rintro acc i ws H' ts x H2 N hn hi ⟨s, ha, hw, hp⟩ ⟨rfl, hx⟩ hts hN
    have hx := hx us (SqL.of (s _ _ hl))
    obtain ⟨t0, rfl⟩ : ∃ t0, ts = [t0] := by
      match ts, hts with
      | [a], _ => exact ⟨a, rfl⟩
    rw [w_gName, w_yes, if_pos rfl]
    obtain ⟨p, e1, e2, _⟩ := h.at_ i _ (List.getElem?_eq_getElem hi)
    rw [hx] at e1
    cases e1
    refine hb p _ _ _ (List.getElem_mem hi) (s _ _ e2) s fun q hq => ?_
    have qa : acc ≠ q := ne_of_none ha hq
    have S5 : Same H2 (upd H2 q (.lst (rs[i].map V.int))) := same_new hq _
    have ha5 := S5 _ _ ha
    refine ⟨ha5, hN _ [_] _ rfl ⟨same_upd hn (s.trans S5), upd_same, by rw [List.length_append, hw]; rfl, fun j c hj hc => ?_⟩⟩
    by_cases z : j < i
    · obtain ⟨p', f1, f2, f3, f4⟩ := hp j c z hc
      exact ⟨p', by rw [List.getElem?_append_left (by omega)]; exact f1, f2, f3, by rw [upd_ne f2]; exact S5 _ _ f4⟩
    · have : j = i := by omega
      subst this
      rw [List.getElem?_eq_getElem hi] at hc
      cases hc
      refine ⟨q, by rw [← hw, snoc_at], qa.symm, s.free hq, ?_⟩
      rw [upd_ne qa.symm]
      exact upd_same
  · rintro acc ws H' hn ⟨s, ha, hw, hp⟩
    exact hd acc ws H' hn s ha ⟨hw, fun k r e => by
      obtain ⟨p, f1, _, f3, f4⟩ := hp k r (List.getElem?_eq_some_iff.mp e).1 e
      exact ⟨p, f1, f3, f4⟩⟩
end
theorem HRs.self {H : Hp} {ex : List Addr} {l : Addr} {us : List V} {rs : List (List Int)} (hl : H l = some (.lst us)) (h : HRs H ex us rs) : V.ref l ∉ us := fun hm => by
  obtain ⟨k, hk⟩ := List.getElem?_of_mem hm
  have kl : k < rs.length := by rw [← h.len]; exact (List.getElem?_eq_some_iff.mp hk).1
  obtain ⟨p, e1, e2, _⟩ := h.at_ k _ (List.getElem?_eq_getElem kl)
  rw [hk] at e1
  cases e1
  rw [hl] at e2
  have e := HO.lst.inj (Option.some.inj e2)
  have := h.refs e
  rw [this] at e
  rw [e] at hm
  cases hm
def spRight9 : Sp := fun vs H Q _ => ∃ (l : Addr) (n : Int) (P : Nat) (us : List V), vs = [.ref l, .int n, .int P, .int (hmW P n)] ∧ H l = some (.lst us) ∧ HRs H [] us (wrs P n) ∧ n.natAbs < 2 ^ 3000 ∧ P ≤ 1000 ∧ hmW P n ≤ 300 ∧ ∀ H', Same H H' → Q (.bl true) H'
def spListed : Sp := fun vs H Q _ => ∃ (n : Int) (P : Nat), vs = [.int n, .int P] ∧ n.natAbs < 2 ^ 3000 ∧ P ≤ 1000 ∧ ∀ H', NoLst H H' → Q (.bl true) H'
def spShort (K : PySem.W.Frag) : Sp := fun vs H Q _ => ∃ (p a : Addr) (ns : List Int) (c : Int), vs = [.ref p] ∧ Pen H p a c ∧ Scr K H a ns ∧ ns.length ≤ 63 ∧ c ≤ 100000000 ∧ ∀ (n : Int) H', n.natAbs < 2 ^ 40 → Pen H' p a (c + 100) → Scr K H' a ns → Chg p H H' → Q (.int n) H'
def spNear (K : PySem.W.Frag) : Sp := fun vs H Q _ => ∃ (p a : Addr) (ns : List Int) (c : Int), vs = [.ref p] ∧ Pen H p a c ∧ Scr K H a ns ∧ ns.length ≤ 63 ∧ c ≤ 100000000 ∧ ∀ (n : Int) H', n.natAbs < 2 ^ 900 → Pen H' p a (c + 100) → Scr K H' a ns → Chg p H H' → Q (.int n) H'
def ones : Nat → Int
  | 0 => 0
  | m + 1 => 16 * ones m + 1
theorem ones_eq : ∀ m : Nat, 15 * ones m = 2 ^ (4 * m) - 1
  | 0 => rfl
  | m + 1 => by
    have ih := ones_eq m
    rw [ones, show 4 * (m + 1) = 4 * m + 4 by omega, Int.pow_add]
    omega
theorem threes_ones : ∀ m : Nat, threes m = ones m * 3
  | 0 => rfl
  | m + 1 => by rw [threes, ones, threes_ones m]; omega
theorem threes_div (m : Nat) : ((2 : Int) ^ (4 * m) - 1) / 15 * 3 = threes m := by
  rw [threes_ones, ← ones_eq]
  omega
theorem threes_b (m : Nat) : (threes m).natAbs < 2 ^ (4 * m) := by
  have h := threes_eq m
  have p : (0 : Int) < 2 ^ (4 * m) := Int.pow_pos (by decide)
  have e : ((2 ^ (4 * m) : Nat) : Int) = 2 ^ (4 * m) := by push_cast; rfl
  omega
theorem pk4 {r : Int} (h0 : 0 ≤ r) (h1 : r < 4) : ∃ v : Int, atI [V.int 3, V.int 5, V.int 11, V.int 3] r = some (.int v) ∧ 0 ≤ v ∧ v ≤ 11 := by
  rcases (show r = 0 ∨ r = 1 ∨ r = 2 ∨ r = 3 by omega) with e | e | e | e <;> subst e
  · exact ⟨3, rfl, by decide, by decide⟩
  · exact ⟨5, rfl, by decide, by decide⟩
  · exact ⟨11, rfl, by decide, by decide⟩
  · exact ⟨3, rfl, by decide, by decide⟩
theorem abs_lt {n : Int} {j k : Nat} (h0 : 0 ≤ n) (h : n + 1 ≤ 2 ^ j) (l : j ≤ k) : n.natAbs < 2 ^ k := by
  have h1 := (p2le l).2
  have e : ((2 ^ k : Nat) : Int) = 2 ^ k := by push_cast; rfl
  omega
theorem near_step {n k g : Int} {i : Nat} (n0 : 0 ≤ n) (n1 : n + 1 ≤ 2 ^ (89 * i)) (k0 : 1 ≤ k) (k1 : k ≤ 42) (g0 : 0 ≤ g) (g1 : g < 2) : 0 ≤ n * 2 ^ (2 * k + 3 + g).toNat + (2 * (1 * 2 ^ (2 * k).toNat) + 1) / 3 ∧ n * 2 ^ (2 * k + 3 + g).toNat + (2 * (1 * 2 ^ (2 * k).toNat) + 1) / 3 + 1 ≤ 2 ^ (89 * (i + 1)) := by
  obtain ⟨m0, m1⟩ := p2le (e := (2 * k + 3 + g).toNat) (k := 88) (by omega)
  obtain ⟨b0, b1⟩ := p2le (e := (2 * k).toNat) (k := 84) (by omega)
  rw [show 89 * (i + 1) = 89 * i + 89 by omega, Int.pow_add]
  generalize (2 : Int) ^ (2 * k + 3 + g).toNat = M at *
  generalize (2 : Int) ^ (2 * k).toNat = B at *
  generalize (2 : Int) ^ (89 * i) = T at *
  have h1 : 0 ≤ n * M := Int.mul_nonneg n0 (by omega)
  have h2 : n * M ≤ n * 2 ^ 88 := Int.mul_le_mul_of_nonneg_left m1 n0
  generalize n * M = X at *
  have e88 : (2 : Int) ^ 88 = 309485009821345068724781056 := by decide
  have e89 : (2 : Int) ^ 89 = 618970019642690137449562112 := by decide
  have e84 : (2 : Int) ^ 84 = 19342813113834066795298816 := by decide
  rw [e88] at h2
  rw [e84] at b1
  rw [e89]
  omega
end L2
set_option Elab.async false
set_option linter.all false
set_option maxRecDepth 100000
set_option maxHeartbeats 1000000
namespace L2
open PySem PySem.Spec PyProof.Rows PySem.W
end L2
set_option Elab.async false
set_option linter.all false
set_option maxRecDepth 100000
set_option maxHeartbeats 1000000
namespace L2
open PySem PySem.Spec PyProof.Rows PySem.W
section
variable {prog : Program} {w : World} {A : Around} {E : Value → Shared → Prop} {s : Shared}
end
section
variable {prog : Program} {w : World} {d : Addr} {es : Array DictEntry} {ep : Nat}
end
end L2
set_option Elab.async false
set_option linter.all false
set_option maxRecDepth 100000
set_option maxHeartbeats 1000000
namespace L2
open PySem PySem.Spec PyProof.Rows PySem.W
section
variable {prog : Program} {w : World} {A : Around} {E : Value → Shared → Prop} {s : Shared}
end
end L2
set_option Elab.async false
set_option linter.all false
set_option maxRecDepth 100000
set_option maxHeartbeats 1000000
namespace L2
open PySem PySem.Spec PyProof.Rows PySem.W
section
variable {σ : St} {H : Hp} {Q : VK} {cs : List Nat} {te : TE} {K : PySem.W.Frag}
end
end L2
set_option Elab.async false
set_option linter.all false
set_option maxRecDepth 100000
set_option maxHeartbeats 1000000
namespace L2
open PySem PySem.Spec PyProof.Rows
section
variable {X : Cx} {e : Expr} {es : List Expr} {te : TE} {tj : Str → TE} {pos : Pos}
def figI (i : Int) : Str := Str.ofString (toString i)
end
section
variable {X : Cx}
end
section
variable {X : Cx}
end
end L2
set_option Elab.async false
set_option linter.all false
set_option maxRecDepth 100000
set_option maxHeartbeats 1000000
namespace L2
open PySem PySem.Spec PyProof.Rows
section
variable {K : PySem.W.Frag} {σ : St} {H : Hp} {Q : VK} {cs : List Nat} {te : TE}
end
def fig (n : Nat) : Str := figI n
section
variable {K : PySem.W.Frag} {H : Hp} {Q : VK}
end
@[elab_as_elim] theorem absU {C : Hp → Prop} {H H2 : Hp} {p : Addr} {o : HO} (np : H p = none) (s : Same H H2) (k : ∀ H', Same H H' → H' p = some o → C H') : C (upd H2 p o) := k _ (same_upd np s) upd_same
def stS (n : Nat) (l : List Str) : Str := Builtin.Str.glued "\n" (("in " ++ fig n) :: l)
end L2
set_option Elab.async false
set_option linter.all false
set_option maxRecDepth 100000
set_option maxHeartbeats 1000000
namespace L2
open PySem PySem.Spec PyProof.Rows
end L2
set_option Elab.async false
set_option linter.all false
set_option maxRecDepth 100000
set_option maxHeartbeats 1000000
namespace L2
open PySem PySem.Spec PyProof.Rows PySem.W
section
variable {X : Cx} {o i e value : Expr} {pos pos' tpos : Pos} {td ty tv : TE}
end
section
variable {σ : St} {H : Hp} {Q : VK} {D : Ends} {a b : Addr} {v : V} {R : Hp → Prop}
end
end L2
set_option Elab.async false
set_option linter.all false
set_option maxRecDepth 100000
set_option maxHeartbeats 1000000
namespace L2
open PySem PySem.Spec PyProof.Rows PySem.W
end L2
set_option Elab.async false
set_option linter.all false
set_option maxRecDepth 100000
set_option maxHeartbeats 1000000
namespace L2
open PySem PySem.Spec PyProof.Rows PySem.W
end L2
set_option Elab.async false
set_option linter.all false
set_option maxRecDepth 100000
set_option maxHeartbeats 1000000
namespace L2
open PySem PySem.Spec PyProof.Rows PySem.W
end L2
set_option Elab.async false
set_option linter.all false
set_option maxRecDepth 100000
set_option maxHeartbeats 1000000
namespace L2
open PySem PySem.Spec PyProof.Rows PySem.W
end L2
set_option Elab.async false
set_option linter.all false
set_option maxRecDepth 100000
set_option maxHeartbeats 1000000
namespace L2
open PySem PySem.Spec PyProof.Rows PySem.W
section
variable {K : PySem.W.Frag} {σ : St} {H : Hp} {Q : VK} {cs : List Nat} {te : TE}
end
end L2
set_option Elab.async false
set_option linter.all false
set_option maxRecDepth 100000
set_option maxHeartbeats 1000000
namespace L2
open PySem PySem.Spec PyProof.Rows PySem.W
section
variable {K : PySem.W.Frag} {σ : St} {H : Hp} {Q : VK} {cs : List Nat} {tt : TT}
end
end L2
set_option Elab.async false
set_option linter.all false
set_option maxRecDepth 100000
set_option maxHeartbeats 1000000
namespace L2
open PySem PySem.Spec PyProof.Rows PySem.W
end L2
set_option Elab.async false
set_option linter.all false
set_option maxRecDepth 100000
set_option maxHeartbeats 1000000
namespace L2
open PySem PySem.Spec PyProof.Rows PySem.W
section
variable {K : PySem.W.Frag} {σ : St} {H : Hp} {Q : VK} {cs : List Nat} {te : TE}
end
end L2
set_option Elab.async false
set_option linter.all false
set_option maxRecDepth 100000
set_option maxHeartbeats 1000000
namespace L2
open PySem PySem.Spec PyProof.Rows PySem.W
section
variable {K : PySem.W.Frag} {σ : St} {H : Hp} {Q : VK} {cs : List Nat} {te : TE} {tt : TT}
end
end L2
set_option Elab.async false
set_option linter.all false
set_option maxRecDepth 100000
set_option maxHeartbeats 1000000
namespace L2
open PySem PySem.Spec PyProof.Rows PySem.W
end L2
set_option Elab.async false
set_option linter.all false
set_option maxRecDepth 100000
set_option maxHeartbeats 1000000
namespace L2
open PySem PySem.Spec PyProof.Rows PySem.W
end L2
end

section
set_option Elab.async false
set_option linter.all false
set_option maxRecDepth 100000
set_option maxHeartbeats 4000000
namespace Law
open PySem L2
def top (i : Nat) : Stmt := PySem.Challenge.pw_shiftsums_k09_writings_listed.main.body.getD i (.Pass ⟨0, 0, 0, 0⟩)
abbrev s_signs : Stmt := top 11
theorem sc_signs : FnScope ["number", "digits", "rest", "digit"] ["number"] (defScope s_signs) := ⟨rfl, rfl, rfl, by decide +kernel, rfl, by decide +kernel, by decide +kernel⟩
abbrev s_first_sign : Stmt := top 12
theorem sc_first_sign : FnScope ["number"] ["number"] (defScope s_first_sign) := ⟨rfl, rfl, rfl, by decide +kernel, rfl, by decide +kernel, by decide +kernel⟩
abbrev s_least : Stmt := top 13
theorem sc_least : FnScope ["number"] ["number"] (defScope s_least) := ⟨rfl, rfl, rfl, by decide +kernel, rfl, by decide +kernel, by decide +kernel⟩
abbrev s_how_many : Stmt := top 16
theorem sc_how_many : FnScope ["number", "places", "counts", "level"] ["number", "places"] (defScope s_how_many) := ⟨rfl, rfl, rfl, by decide +kernel, rfl, by decide +kernel, by decide +kernel⟩
abbrev s_writings : Stmt := top 17
theorem sc_writings : FnScope ["number", "places", "endings", "level"] ["number", "places"] (defScope s_writings) := ⟨rfl, rfl, rfl, by decide +kernel, rfl, by decide +kernel, by decide +kernel⟩
abbrev s_levels : Stmt := top 18
theorem sc_levels : FnScope ["number", "places", "told", "rests", "place", "level", "following", "rest", "digit", "left"] ["number", "places"] (defScope s_levels) := ⟨rfl, rfl, rfl, by decide +kernel, rfl, by decide +kernel, by decide +kernel⟩
abbrev s_steps : Stmt := top 19
theorem sc_steps : FnScope ["rest", "places", "count", "both"] ["rest", "places"] (defScope s_steps) := ⟨rfl, rfl, rfl, by decide +kernel, rfl, by decide +kernel, by decide +kernel⟩
abbrev s_counts_ahead : Stmt := top 20
theorem sc_counts_ahead : FnScope ["level", "counts", "ahead", "rest"] ["level", "counts"] (defScope s_counts_ahead) := ⟨rfl, rfl, rfl, by decide +kernel, rfl, by decide +kernel, by decide +kernel⟩
abbrev s_endings_ahead : Stmt := top 21
theorem sc_endings_ahead : FnScope ["level", "endings", "ahead", "rest", "longer", "digit", "left"] ["level", "endings"] (defScope s_endings_ahead) := ⟨rfl, rfl, rfl, by decide +kernel, rfl, by decide +kernel, by decide +kernel⟩
abbrev s_l_pen : Stmt := top 23
theorem sc_l_pen : FnScope ["_law_script"] ["_law_script"] (defScope s_l_pen) := ⟨rfl, rfl, rfl, by decide +kernel, rfl, by decide +kernel, by decide +kernel⟩
abbrev s_l_draw : Stmt := top 24
theorem sc_l_draw : FnScope ["_law_pen_here", "_law_many", "_law_digit", "_law_script", "_law_at", "_law_cell", "_law_number"] ["_law_pen_here", "_law_many"] (defScope s_l_draw) := ⟨rfl, rfl, rfl, by decide +kernel, rfl, by decide +kernel, by decide +kernel⟩
abbrev s_l_whole : Stmt := top 25
theorem sc_l_whole : FnScope ["_law_thing"] ["_law_thing"] (defScope s_l_whole) := ⟨rfl, rfl, rfl, by decide +kernel, rfl, by decide +kernel, by decide +kernel⟩
abbrev s_l_signs : Stmt := top 26
theorem sc_l_signs : FnScope ["_law_number", "_law_size", "_law_found", "_law_place"] ["_law_number"] (defScope s_l_signs) := ⟨rfl, rfl, rfl, by decide +kernel, rfl, by decide +kernel, by decide +kernel⟩
abbrev s_l_least : Stmt := top 27
theorem sc_l_least : FnScope ["_law_number"] ["_law_number"] (defScope s_l_least) := ⟨rfl, rfl, rfl, by decide +kernel, rfl, by decide +kernel, by decide +kernel⟩
abbrev s_l_is_digits : Stmt := top 28
theorem sc_l_is_digits : FnScope ["_law_found"] ["_law_found"] (defScope s_l_is_digits) := ⟨rfl, rfl, rfl, by decide +kernel, rfl, by decide +kernel, by decide +kernel⟩
abbrev s_l_count : Stmt := top 29
theorem sc_l_count : FnScope ["_law_number", "_law_places", "_law_rows", "_law_place", "_law_fresh", "_law_carry", "_law_weight", "_law_told", "_law_low", "_law_digit", "_law_to", "_law_old"] ["_law_number", "_law_places"] (defScope s_l_count) := ⟨rfl, rfl, rfl, by decide +kernel, rfl, by decide +kernel, by decide +kernel⟩
abbrev s_l_too_many : Stmt := top 30
theorem sc_l_too_many : FnScope ["_law_number", "_law_places", "_law_caught", "e", "_law_others"] ["_law_number", "_law_places"] (defScope s_l_too_many) := ⟨rfl, rfl, rfl, by decide +kernel, rfl, by decide +kernel, by decide +kernel⟩
abbrev s_l_short : Stmt := top 31
theorem sc_l_short : FnScope ["_law_pen_here", "_law_way", "_law_number", "_law_k"] ["_law_pen_here"] (defScope s_l_short) := ⟨rfl, rfl, rfl, by decide +kernel, rfl, by decide +kernel, by decide +kernel⟩
abbrev s_l_sum : Stmt := top 32
theorem sc_l_sum : FnScope ["_law_digits", "_law_total", "_law_k"] ["_law_digits"] (defScope s_l_sum) := ⟨rfl, rfl, rfl, by decide +kernel, rfl, by decide +kernel, by decide +kernel⟩
abbrev s_l_right : Stmt := top 33
theorem sc_l_right : FnScope ["_law_found", "_law_number", "_law_places", "_law_due", "_law_few", "_law_one", "_law_k"] ["_law_found", "_law_number", "_law_places", "_law_due"] (defScope s_l_right) := ⟨rfl, rfl, rfl, by decide +kernel, rfl, by decide +kernel, by decide +kernel⟩
abbrev s_l_listed : Stmt := top 34
theorem sc_l_listed : FnScope ["_law_number", "_law_places", "_law_due", "_law_found", "_law_kept", "_law_one"] ["_law_number", "_law_places"] (defScope s_l_listed) := ⟨rfl, rfl, rfl, by decide +kernel, rfl, by decide +kernel, by decide +kernel⟩
abbrev s_l_near : Stmt := top 35
theorem sc_l_near : FnScope ["_law_pen_here", "_law_number", "_law_some", "_law_k"] ["_law_pen_here"] (defScope s_l_near) := ⟨rfl, rfl, rfl, by decide +kernel, rfl, by decide +kernel, by decide +kernel⟩
abbrev s_law : Stmt := top 36
theorem sc_law : FnScope ["_law_script", "_law_pen_here", "_law_turn", "_law_number", "_law_size", "_law_places", "_law_few"] ["_law_script"] (defScope s_law) := ⟨rfl, rfl, rfl, by decide +kernel, rfl, by decide +kernel, by decide +kernel⟩
structure Bl (mg : Str → Option Value) : Prop where
  ValueError : mg "ValueError" = none
  abs : mg "abs" = none
  all : mg "all" = none
  bool : mg "bool" = none
  int : mg "int" = none
  isinstance : mg "isinstance" = none
  len : mg "len" = none
  list : mg "list" = none
  max : mg "max" = none
  min : mg "min" = none
  range : mg "range" = none
  reversed : mg "reversed" = none
  sorted : mg "sorted" = none
  sum : mg "sum" = none
structure Txt (K : PySem.W.Frag) (mg : Str → Option Value) : Prop where
  bl : Bl mg
  t_signs : ∃ (f : Addr) (fd : FuncData), Fun K "signs" "signs" s_signs f fd ∧ mg "signs" = some (.ref f) ∧ Binds K fd ["number"] []
  t_first_sign : ∃ (f : Addr) (fd : FuncData), Fun K "first_sign" "first_sign" s_first_sign f fd ∧ mg "first_sign" = some (.ref f) ∧ Binds K fd ["number"] []
  t_least : ∃ (f : Addr) (fd : FuncData), Fun K "least" "least" s_least f fd ∧ mg "least" = some (.ref f) ∧ Binds K fd ["number"] []
  t_how_many : ∃ (f : Addr) (fd : FuncData), Fun K "how_many" "how_many" s_how_many f fd ∧ mg "how_many" = some (.ref f) ∧ Binds K fd ["number", "places"] []
  t_writings : ∃ (f : Addr) (fd : FuncData), Fun K "writings" "writings" s_writings f fd ∧ mg "writings" = some (.ref f) ∧ Binds K fd ["number", "places"] []
  t_levels : ∃ (f : Addr) (fd : FuncData), Fun K "levels" "levels" s_levels f fd ∧ mg "levels" = some (.ref f) ∧ Binds K fd ["number", "places"] []
  t_steps : ∃ (f : Addr) (fd : FuncData), Fun K "steps" "steps" s_steps f fd ∧ mg "steps" = some (.ref f) ∧ Binds K fd ["rest", "places"] []
  t_counts_ahead : ∃ (f : Addr) (fd : FuncData), Fun K "counts_ahead" "counts_ahead" s_counts_ahead f fd ∧ mg "counts_ahead" = some (.ref f) ∧ Binds K fd ["level", "counts"] []
  t_endings_ahead : ∃ (f : Addr) (fd : FuncData), Fun K "endings_ahead" "endings_ahead" s_endings_ahead f fd ∧ mg "endings_ahead" = some (.ref f) ∧ Binds K fd ["level", "endings"] []
  t_l_pen : ∃ (f : Addr) (fd : FuncData), Fun K "_law_pen" "_law_pen" s_l_pen f fd ∧ mg "_law_pen" = some (.ref f) ∧ Binds K fd ["_law_script"] []
  t_l_draw : ∃ (f : Addr) (fd : FuncData), Fun K "_law_draw" "_law_draw" s_l_draw f fd ∧ mg "_law_draw" = some (.ref f) ∧ Binds K fd ["_law_pen_here", "_law_many"] []
  t_l_whole : ∃ (f : Addr) (fd : FuncData), Fun K "_law_whole" "_law_whole" s_l_whole f fd ∧ mg "_law_whole" = some (.ref f) ∧ Binds K fd ["_law_thing"] []
  t_l_signs : ∃ (f : Addr) (fd : FuncData), Fun K "_law_signs" "_law_signs" s_l_signs f fd ∧ mg "_law_signs" = some (.ref f) ∧ Binds K fd ["_law_number"] []
  t_l_least : ∃ (f : Addr) (fd : FuncData), Fun K "_law_least" "_law_least" s_l_least f fd ∧ mg "_law_least" = some (.ref f) ∧ Binds K fd ["_law_number"] []
  t_l_is_digits : ∃ (f : Addr) (fd : FuncData), Fun K "_law_is_digits" "_law_is_digits" s_l_is_digits f fd ∧ mg "_law_is_digits" = some (.ref f) ∧ Binds K fd ["_law_found"] []
  t_l_count : ∃ (f : Addr) (fd : FuncData), Fun K "_law_count" "_law_count" s_l_count f fd ∧ mg "_law_count" = some (.ref f) ∧ Binds K fd ["_law_number", "_law_places"] []
  t_l_too_many : ∃ (f : Addr) (fd : FuncData), Fun K "_law_too_many" "_law_too_many" s_l_too_many f fd ∧ mg "_law_too_many" = some (.ref f) ∧ Binds K fd ["_law_number", "_law_places"] []
  t_l_short : ∃ (f : Addr) (fd : FuncData), Fun K "_law_short" "_law_short" s_l_short f fd ∧ mg "_law_short" = some (.ref f) ∧ Binds K fd ["_law_pen_here"] []
  t_l_sum : ∃ (f : Addr) (fd : FuncData), Fun K "_law_sum" "_law_sum" s_l_sum f fd ∧ mg "_law_sum" = some (.ref f) ∧ Binds K fd ["_law_digits"] []
  t_l_right : ∃ (f : Addr) (fd : FuncData), Fun K "_law_right" "_law_right" s_l_right f fd ∧ mg "_law_right" = some (.ref f) ∧ Binds K fd ["_law_found", "_law_number", "_law_places", "_law_due"] []
  t_l_listed : ∃ (f : Addr) (fd : FuncData), Fun K "_law_listed" "_law_listed" s_l_listed f fd ∧ mg "_law_listed" = some (.ref f) ∧ Binds K fd ["_law_number", "_law_places"] []
  t_l_near : ∃ (f : Addr) (fd : FuncData), Fun K "_law_near" "_law_near" s_l_near f fd ∧ mg "_law_near" = some (.ref f) ∧ Binds K fd ["_law_pen_here"] []
  t_law : ∃ (f : Addr) (fd : FuncData), Fun K "law" "law" s_law f fd ∧ mg "law" = some (.ref f) ∧ Binds K fd ["_law_script"] []
  i_MOST_TOLD : ∃ tk : Tok, mg "MOST_TOLD" = some (.int 300 tk)
  cls : ∃ (cst_ShiftError cst_NoWeb cst_Down cst_NoText cst_NoJoin cst_TooMany cst_NoRow cst_NoName cst_NoWord : Addr), mg "ShiftError" = some (.ref cst_ShiftError) ∧ mg "NoWeb" = some (.ref cst_NoWeb) ∧ mg "Down" = some (.ref cst_Down) ∧ mg "NoText" = some (.ref cst_NoText) ∧ mg "NoJoin" = some (.ref cst_NoJoin) ∧ mg "TooMany" = some (.ref cst_TooMany) ∧ mg "NoRow" = some (.ref cst_NoRow) ∧ mg "NoName" = some (.ref cst_NoName) ∧ mg "NoWord" = some (.ref cst_NoWord) ∧ PySem.W.excIn K cst_TooMany [.type "ValueError", .type "Exception", .type "BaseException", .type "object"] "ValueError.__new__" = true ∧ PySem.W.excIn K cst_ShiftError [.type "ValueError", .type "Exception", .type "BaseException", .type "object"] "ValueError.__new__" = true ∧ L2.subIn K cst_TooMany cst_ShiftError = true ∧ L2.excK K cst_TooMany = true ∧ PySem.W.kitOne K (.ref cst_TooMany) (.type "ValueError") = some true ∧ PySem.W.kitAny K (.ref cst_TooMany) [.ref cst_Down, .ref cst_NoJoin, .ref cst_NoName, .ref cst_NoRow, .ref cst_NoText, .ref cst_NoWeb, .ref cst_NoWord] = some false
local macro_rules | `(tactic| walk_at "WP") => `(tactic| (first | (dsimp only [w_gLst, w_forE, w_compE, w_compZ, w_for3, w_gTupK, w_ixT, w_eqS, w_aug, w_ipI, w_dnK, w_maxD, w_sl, w_noPart, w_part, w_slL, w_var, w_C, w_op, w_un, w_rI, w_rI0, w_rU, w_eqI, w_neI, w_eqB, w_neB, w_seq, w_next, w_break, w_cont, w_ifS, w_ret, w_retN, w_drop, w_asg, w_gName, w_gSub, w_test, w_B, w_and, w_or, w_not, w_andV, w_orV, w_notV, w_if, w_call, w_nil, w_cons, w_CB, w_lst, w_tup, w_isN, w_notN, w_chain, w_for1, w_for2b, w_On2, w_forL, w_forT, w_forV, w_compL, w_compT, w_comp1, w_comp2b, w_yes, w_bm, w_bm0, w_rBits, w_tyInt, w_gTupM, w_gCons, w_gNil, w_dgS, w_dgI, w_sDP, w_dpS, w_dpI, w_dII, w_disp, tPairs, pen_s, pen_a, pen_l, pen_len, pen_pa, pen_pl, HO.dK.injEq, w_append, List.getElem?_cons_zero, List.getElem?_cons_succ, List.set_cons_zero, List.set_cons_succ, Option.some.injEq, V.int.injEq, V.bl.injEq, V.ref.injEq, V.str.injEq, exists_eq_left', exists_eq_left, List.append_nil, List.cons.injEq, and_true, true_and, exists_and_left, decide_eq_true_eq, Bool.not_eq_true', decide_eq_false_iff_not, Bool.not_true, Bool.not_false, w_ixM, w_ixU, w_ixL, w_setL, w_cxK, w_isI_ii, w_isI_ib, w_isI_bi, w_isI_bb, w_isI_ni, w_isI_nb, w_isI_si, w_isI_sb, sl_0, sl_1, sl_2, sl_3, sl_4, sl_5, sl_6, sl_7, sl_8, CPowB, w_shl1, at_0, at_1, at_2, at_3, ixN_0, ixN_1, ixN_2, upd_same, HO.lst.injEq, HO.tup.injEq, Int.reduceToNat, Int.reducePow, Int.reduceNeg, Int.reduceLT, Int.reduceLE, Int.reduceMod, Int.reduceMul, Int.reduceAdd, Int.reduceSub, Int.reduceDiv, Int.reduceEq, ite_true, ite_false, if_true, if_false, Bool.true_eq_false, Bool.false_eq_true, List.length_cons, List.length_nil, reduceCtorEq, false_and, and_false, not_false_eq_true, not_true_eq_false, exists_false, false_or, or_false, w_pop, w_extend, w_reverse, w_clear, w_cat, w_LZ, w_LR, w_forD, w_compZ2]; try simp only [w_gLst, w_forE, w_compE, w_compZ, w_for3, w_gTupK, w_ixT, w_eqS, w_aug, w_ipI, w_dnK, w_maxD, w_sl, w_noPart, w_part, w_slL, w_var, w_C, w_op, w_un, w_rI, w_rI0, w_rU, w_eqI, w_neI, w_eqB, w_neB, w_seq, w_next, w_break, w_cont, w_ifS, w_ret, w_retN, w_drop, w_asg, w_gName, w_gSub, w_test, w_B, w_and, w_or, w_not, w_andV, w_orV, w_notV, w_if, w_call, w_nil, w_cons, w_CB, w_lst, w_tup, w_isN, w_notN, w_chain, w_for1, w_for2b, w_On2, w_forL, w_forT, w_forV, w_compL, w_compT, w_comp1, w_comp2b, w_yes, w_bm, w_bm0, w_rBits, w_tyInt, w_gTupM, w_gCons, w_gNil, w_dgS, w_dgI, w_sDP, w_dpS, w_dpI, w_dII, w_disp, tPairs, pen_s, pen_a, pen_l, pen_len, pen_pa, pen_pl, HO.dK.injEq, w_append, List.getElem?_cons_zero, List.getElem?_cons_succ, List.set_cons_zero, List.set_cons_succ, Option.some.injEq, V.int.injEq, V.bl.injEq, V.ref.injEq, V.str.injEq, exists_eq_left', exists_eq_left, List.append_nil, List.cons.injEq, and_true, true_and, exists_and_left, decide_eq_true_eq, Bool.not_eq_true', decide_eq_false_iff_not, Bool.not_true, Bool.not_false, w_ixM, w_ixU, w_ixL, w_setL, w_cxK, w_isI_ii, w_isI_ib, w_isI_bi, w_isI_bb, w_isI_ni, w_isI_nb, w_isI_si, w_isI_sb, sl_0, sl_1, sl_2, sl_3, sl_4, sl_5, sl_6, sl_7, sl_8, CPowB, w_shl1, at_0, at_1, at_2, at_3, ixN_0, ixN_1, ixN_2, upd_same, HO.lst.injEq, HO.tup.injEq, Int.reduceToNat, Int.reducePow, Int.reduceNeg, Int.reduceLT, Int.reduceLE, Int.reduceMod, Int.reduceMul, Int.reduceAdd, Int.reduceSub, Int.reduceDiv, Int.reduceEq, ite_true, ite_false, if_true, if_false, Bool.true_eq_false, Bool.false_eq_true, List.length_cons, List.length_nil, reduceCtorEq, false_and, and_false, not_false_eq_true, not_true_eq_false, exists_false, false_or, or_false, w_pop, w_extend, w_reverse, w_clear, w_cat, w_LZ, w_LR, w_forD, w_compZ2]) | simp only [w_gLst, w_forE, w_compE, w_compZ, w_for3, w_gTupK, w_ixT, w_eqS, w_aug, w_ipI, w_dnK, w_maxD, w_sl, w_noPart, w_part, w_slL, w_var, w_C, w_op, w_un, w_rI, w_rI0, w_rU, w_eqI, w_neI, w_eqB, w_neB, w_seq, w_next, w_break, w_cont, w_ifS, w_ret, w_retN, w_drop, w_asg, w_gName, w_gSub, w_test, w_B, w_and, w_or, w_not, w_andV, w_orV, w_notV, w_if, w_call, w_nil, w_cons, w_CB, w_lst, w_tup, w_isN, w_notN, w_chain, w_for1, w_for2b, w_On2, w_forL, w_forT, w_forV, w_compL, w_compT, w_comp1, w_comp2b, w_yes, w_bm, w_bm0, w_rBits, w_tyInt, w_gTupM, w_gCons, w_gNil, w_dgS, w_dgI, w_sDP, w_dpS, w_dpI, w_dII, w_disp, tPairs, pen_s, pen_a, pen_l, pen_len, pen_pa, pen_pl, HO.dK.injEq, w_append, List.getElem?_cons_zero, List.getElem?_cons_succ, List.set_cons_zero, List.set_cons_succ, Option.some.injEq, V.int.injEq, V.bl.injEq, V.ref.injEq, V.str.injEq, exists_eq_left', exists_eq_left, List.append_nil, List.cons.injEq, and_true, true_and, exists_and_left, decide_eq_true_eq, Bool.not_eq_true', decide_eq_false_iff_not, Bool.not_true, Bool.not_false, w_ixM, w_ixU, w_ixL, w_setL, w_cxK, w_isI_ii, w_isI_ib, w_isI_bi, w_isI_bb, w_isI_ni, w_isI_nb, w_isI_si, w_isI_sb, sl_0, sl_1, sl_2, sl_3, sl_4, sl_5, sl_6, sl_7, sl_8, CPowB, w_shl1, at_0, at_1, at_2, at_3, ixN_0, ixN_1, ixN_2, upd_same, HO.lst.injEq, HO.tup.injEq, Int.reduceToNat, Int.reducePow, Int.reduceNeg, Int.reduceLT, Int.reduceLE, Int.reduceMod, Int.reduceMul, Int.reduceAdd, Int.reduceSub, Int.reduceDiv, Int.reduceEq, ite_true, ite_false, if_true, if_false, Bool.true_eq_false, Bool.false_eq_true, List.length_cons, List.length_nil, reduceCtorEq, false_and, and_false, not_false_eq_true, not_true_eq_false, exists_false, false_or, or_false, w_pop, w_extend, w_reverse, w_clear, w_cat, w_LZ, w_LR, w_forD, w_compZ2]))
section
variable {P : Program} {w : World} {K : PySem.W.Frag} {mg : Str → Option Value} {base : Heap}
theorem ok_pen (T : Txt K mg) : Cal P w K mg base 1 "_law_pen" ["_law_script"] (spPen K) := by
  have B := T.bl
  refine mkCal T.t_l_pen sc_l_pen (fun vs H Q E h => ?_) (fun f cdv A outer s H vs Q E hr h => ?_)
  · obtain ⟨a, rfl, _⟩ := h
    rfl
  obtain ⟨a, rfl, q⟩ := h
  refine ⟨_, ((@pss_one _ _ _ (@ps_ret _ _ _ _ (@pe_disp _ _ _ _ _ (@pps_cons _ _ _ _ _ _ _ _ _ pe_str (pv 0) (@pps_cons _ _ _ _ _ _ _ _ _ pe_str pe_int (@pps_cons _ _ _ _ _ _ _ _ _ pe_str pe_int pps_nil))) rfl rfl (by simp) (by decide))))), ?_⟩
  rw [show start ["_law_script"] [.ref a] = [some (.ref a)] from rfl]
  try walk_at "WP"
  intro p hp
  refine ⟨penKV a 0 0, rfl, (by show 3 ≤ 15; decide), ?_⟩
  rw [pen_mk, upd_upd]
  exact q p _ hp (same_new hp _) (pen_of (by decide) (by decide) (by decide))
theorem ok_draw (T : Txt K mg) : Cal P w K mg base 1 "_law_draw" ["_law_pen_here", "_law_many"] (spDraw K) := by
  have B := T.bl
  refine mkCal T.t_l_draw sc_l_draw (fun vs H Q E h => ?_) (fun f cdv A outer s H vs Q E hr h => ?_)
  · obtain ⟨p, a, ns, m, c, rfl, _⟩ := h
    rfl
  obtain ⟨p, a, ns, m, c_, rfl, hP, hS, h63, hc, h1, h2, q⟩ := h
  refine ⟨_, ((@pss_cons _ _ _ _ _ (@ps_if _ _ _ _ _ _ _ _ (@pt_cmpR _ _ _ _ _ _ _ _ op_gt (@pe_dgM _ _ _ _ _ _ (@hu_of _ _ hr) (pv 0) pe_str (fun _ _ => rfl)) pe_int (@nomark _ _ (by decide) (by decide))) (@pss_cons _ _ _ _ _ (@ps_set _ _ (2) _ _ _ _ sc_l_draw.nd rfl (by first | exact Or.inl rfl | exact Or.inr rfl) (@pe_op _ _ _ _ _ _ _ _ op_mod (@pe_dgM _ _ _ _ _ _ (@hu_of _ _ hr) (pv 0) pe_str (fun _ _ => rfl)) (pv 1)) (by rfl) (by first | exact .inl rfl | exact .inr rfl | assumption)) (@pss_cons _ _ _ _ _ (@ps_dpM _ _ _ _ _ _ _ _ _ (@hu_of _ _ hr) (pv 0) pe_str (@pe_op _ _ _ _ _ _ _ _ op_fdivB (@pe_dgM _ _ _ _ _ _ (@hu_of _ _ hr) (pv 0) pe_str (fun _ _ => rfl)) (pv 1)) rfl) (@pss_one _ _ _ (@ps_ret _ _ _ _ (pv 2))))) pss_nil) (@pss_cons _ _ _ _ _ (@ps_set _ _ (3) _ _ _ _ sc_l_draw.nd rfl (by first | exact Or.inl rfl | exact Or.inr rfl) (@pe_dgM _ _ _ _ _ _ (@hu_of _ _ hr) (pv 0) pe_str (fun _ _ => rfl)) (by rfl) (by first | exact .inl rfl | exact .inr rfl | assumption)) (@pss_cons _ _ _ _ _ (@ps_set _ _ (4) _ _ _ _ sc_l_draw.nd rfl (by first | exact Or.inl rfl | exact Or.inr rfl) (@pe_dgM _ _ _ _ _ _ (@hu_of _ _ hr) (pv 0) pe_str (fun _ _ => rfl)) (by rfl) (by first | exact .inl rfl | exact .inr rfl | assumption)) (@pss_cons _ _ _ _ _ (@ps_dpM _ _ _ _ _ _ _ _ _ (@hu_of _ _ hr) (pv 0) pe_str (@pe_op _ _ _ _ _ _ _ _ op_add (pv 4) pe_int) rfl) (@pss_cons _ _ _ _ _ (@ps_set _ _ (5) _ _ _ _ sc_l_draw.nd rfl (by first | exact Or.inl rfl | exact Or.inr rfl) (@pe_op _ _ _ _ _ _ _ _ op_add (@pe_op _ _ _ _ _ _ _ _ op_mulB pe_int (pv 4)) pe_int) (by rfl) (by first | exact .inl rfl | exact .inr rfl | assumption)) (@pss_mid _ _ _ _ _ (@ps_if _ _ _ _ _ _ _ _ (@pt_cmpR _ _ _ _ _ _ _ _ (@op_neD _ _ hr) (pv 3) (@pe_lst _ _ _ _ pa_nil) (@nomark _ _ (by decide) (by decide))) (@pss_one _ _ _ (@ps_set _ _ (5) _ _ _ _ sc_l_draw.nd rfl (by first | exact Or.inl rfl | exact Or.inr rfl) (@pe_ix _ _ _ _ _ _ _ ix_list (pv 3) (@pe_op _ _ _ _ _ _ _ _ op_mod (pv 4) (@pe_callB _ _ _ _ _ _ _ _ _ call_lenS rfl B.len bo_len (@pa_cons _ _ _ _ _ (pv 3) pa_nil (by rfl)) (by decide) (by decide) (by rfl) (by rfl))) (fun _ _ => rfl)) (by rfl) (by first | exact .inl rfl | exact .inr rfl | assumption))) pss_nil) (@pss_cons _ _ _ _ _ (@ps_if _ _ _ _ _ _ _ _ (@PW.pt _ _ _ (@pw_and _ _ _ _ _ _ _ (@pt_cmpR _ _ _ _ _ _ _ _ op_lt (pv 4) (@pe_callB _ _ _ _ _ _ _ _ _ call_lenS rfl B.len bo_len (@pa_cons _ _ _ _ _ (pv 3) pa_nil (by rfl)) (by decide) (by decide) (by rfl) (by rfl)) (@nomark _ _ (by decide) (by decide))) (@pw_and1 _ _ _ _ (@pt_cmpR _ _ _ _ _ _ _ _ op_ge (@pe_callB _ _ _ _ _ _ _ _ _ call_abs rfl B.abs bo_abs (@pa_cons _ _ _ _ _ (pv 5) pa_nil (by rfl)) (by decide) (by decide) (by rfl) (by rfl)) (@pe_op _ _ _ _ _ _ _ _ op_powB pe_int pe_int) (@nomark _ _ (by decide) (by decide)))))) (@pss_cons _ _ _ _ _ (@ps_dpM _ _ _ _ _ _ _ _ _ (@hu_of _ _ hr) (pv 0) pe_str (@pe_op _ _ _ _ _ _ _ _ op_fdivB (@pe_callB _ _ _ _ _ _ _ _ _ call_abs rfl B.abs bo_abs (@pa_cons _ _ _ _ _ (pv 5) pa_nil (by rfl)) (by decide) (by decide) (by rfl) (by rfl)) (pv 1)) rfl) (@pss_one _ _ _ (@ps_ret _ _ _ _ (@pe_op _ _ _ _ _ _ _ _ op_mod (@pe_callB _ _ _ _ _ _ _ _ _ call_abs rfl B.abs bo_abs (@pa_cons _ _ _ _ _ (pv 5) pa_nil (by rfl)) (by decide) (by decide) (by rfl) (by rfl)) (pv 1))))) pss_nil) (@pss_cons _ _ _ _ _ (@ps_set _ _ (6) _ _ _ _ sc_l_draw.nd rfl (by first | exact Or.inl rfl | exact Or.inr rfl) (@pe_op _ _ _ _ _ _ _ _ op_mod (@pe_op _ _ _ _ _ _ _ _ op_mulB (@pe_op _ _ _ _ _ _ _ _ op_add (@pe_op _ _ _ _ _ _ _ _ op_add (@pe_op _ _ _ _ _ _ _ _ op_mod (pv 5) pe_int) (@pe_op _ _ _ _ _ _ _ _ op_mulB pe_int (pv 4))) pe_int) pe_int) pe_int) (by rfl) (by first | exact .inl rfl | exact .inr rfl | assumption)) (@pss_cons _ _ _ _ _ (@ps_set _ _ (6) _ _ _ _ sc_l_draw.nd rfl (by first | exact Or.inl rfl | exact Or.inr rfl) (@pe_op _ _ _ _ _ _ _ _ op_mod (@pe_op _ _ _ _ _ _ _ _ op_add (@pe_op _ _ _ _ _ _ _ _ op_add (@pe_op _ _ _ _ _ _ _ _ op_mulB (pv 6) (pv 6)) (@pe_op _ _ _ _ _ _ _ _ op_mulB pe_int (pv 6))) (pv 4)) pe_int) (by rfl) (by first | exact .inl rfl | exact .inr rfl | assumption)) (@pss_one _ _ _ (@ps_ret _ _ _ _ (@pe_op _ _ _ _ _ _ _ _ op_mod (@pe_op _ _ _ _ _ _ _ _ op_fdivB (pv 6) pe_int) (pv 1)))))))))))))), ?_⟩
  rw [show start ["_law_pen_here", "_law_many", "_law_digit", "_law_script", "_law_at", "_law_cell", "_law_number"] [.ref p, .int m] = [some (.ref p), some (.int m), none, none, none, none, none] from rfl]
  obtain ⟨t, l, hH, ht0, htc, hl⟩ := id hP
  (iterate 5 ((try (walk_at "WP")); (try (simp only [hH, Option.some.injEq, HO.tup.injEq, HO.lst.injEq, HO.dK.injEq, exists_eq_left', exists_eq_left])))); (try (walk_at "WP"))
  refine ite2 (fun c => ?_) (fun c => ?_)
  · exact ⟨by omega, divB (by omega) h2, q _ _ (modq (by omega)).1 (modq (by omega)).2 (pen_of ht0 (by omega) (divq hl (by omega))) (hS.pen hP (Chg.upd _)) (Chg.upd _)⟩
  refine ⟨mul_l (by decide) (by decide), ?_⟩
  have hS1 := hS.pen hP (Chg.upd (.dK (penKV a (t + 1) l)))
  have hP1 : Pen (upd H p (.dK (penKV a (t + 1) l))) p a (c_ + 1) := pen_of (by omega) (by omega) hl
  have C1 : Chg p H (upd H p (.dK (penKV a (t + 1) l))) := Chg.upd _
  have hp1 : (upd H p (.dK (penKV a (t + 1) l))) p = some (.dK (penKV a (t + 1) l)) := upd_same
  generalize upd H p (.dK (penKV a (t + 1) l)) = H1 at *
  refine mid_of (fun σ H2 => ∃ (cell : Int) (o6 : Option V), σ = [some (.ref p), some (.int m), none, some (.ref a), some (.int t), some (.int cell), o6] ∧ o6 = none ∧ Same H1 H2) (fun N hN => ?_) ?_
  · try walk_at "WP"
    intro e he
    have sm := same_new he (.lst [])
    refine neLI (ms := []) (hS1.same sm).sq (SqL.of upd_same) ?_
    try walk_at "WP"
    generalize upd H1 e (.lst []) = H2 at sm ⊢
    refine ite2 (fun z => ?_) (fun z => ?_)
    · have hne : 0 < ns.length := List.length_pos_iff.mpr z
      refine ⟨_, (hS1.same sm).sq, by rw [List.length_map]; omega, _, (hS1.same sm).sq, ?_⟩
      rw [List.length_map]
      have b := modq (g := t) (m := (ns.length : Int)) (by omega)
      obtain ⟨v, hv, _⟩ := atI_int (ns := ns) b.1 b.2
      exact ⟨_, hv, hN _ _ ⟨v, _, rfl, rfl, sm⟩⟩
    · exact hN _ _ ⟨_, _, rfl, rfl, sm⟩
  · rintro σ H2 ⟨cell, o6, rfl, rfl, sm⟩
    have hS2 := hS1.same sm
    have hP2 := hP1.same sm
    have hp2 := sm _ _ hp1
    have C2 : Chg p H H2 := C1.trans sm.chg
    (iterate 5 ((try (walk_at "WP")); (try (simp only [hp2, Option.some.injEq, HO.tup.injEq, HO.lst.injEq, HO.dK.injEq, exists_eq_left', exists_eq_left])))); (try (walk_at "WP"))
    refine ⟨_, hS2.sq, ?_⟩
    have last : IntMulOk 104729 t ∧ IntMulOk (cell % 2147483629 + 104729 * t + 3) 48271 ∧ IntMulOk ((cell % 2147483629 + 104729 * t + 3) * 48271 % 2147483647) ((cell % 2147483629 + 104729 * t + 3) * 48271 % 2147483647) ∧ IntMulOk 69621 ((cell % 2147483629 + 104729 * t + 3) * 48271 % 2147483647) ∧
        CDivB (((cell % 2147483629 + 104729 * t + 3) * 48271 % 2147483647 * ((cell % 2147483629 + 104729 * t + 3) * 48271 % 2147483647) + 69621 * ((cell % 2147483629 + 104729 * t + 3) * 48271 % 2147483647) + t) % 2147483587) 8 ∧ 0 < m ∧
        Q (V.int (((cell % 2147483629 + 104729 * t + 3) * 48271 % 2147483647 * ((cell % 2147483629 + 104729 * t + 3) * 48271 % 2147483647) + 69621 * ((cell % 2147483629 + 104729 * t + 3) * 48271 % 2147483647) + t) % 2147483587 / 8 % m)) H2 :=
      ⟨mul_l (by decide) (by decide), mul_r (by decide) (by decide), mul_l (by omega) (by omega), mul_l (by decide) (by decide), divB (by decide) (by decide), by omega, q _ _ (modq (by omega)).1 (modq (by omega)).2 hP2 hS2 C2⟩
    refine ite2 (fun _ => ?_) (fun _ => last)
    refine ite2 (fun _ => ?_) (fun _ => last)
    have h0 : 0 ≤ (if cell < 0 then -cell else cell) := by split <;> omega
    refine ⟨divB (by omega) h2, by omega, ?_⟩
    exact q _ _ (modq (by omega)).1 (modq (by omega)).2 (pen_of (by omega) (by omega) (divq h0 (by omega))) (hS2.pen hP2 (Chg.upd _)) (C2.trans (Chg.upd _))
end

section
variable {P : Program} {w : World} {K : PySem.W.Frag} {mg : Str → Option Value} {base : Heap}
theorem ok_first (T : Txt K mg) : Cal P w K mg base 1 "first_sign" ["number"] spFirst := by
  have B := T.bl
  refine mkCal T.t_first_sign sc_first_sign (fun vs H Q E h => ?_) (fun f cdv A outer s H vs Q E hr h => ?_)
  · obtain ⟨n, rfl, _⟩ := h
    rfl
  obtain ⟨n, rfl, q⟩ := h
  refine ⟨_, ((@pss_cons _ _ _ _ _ (@ps_if _ _ _ _ _ _ _ _ (@pt_cmpR _ _ _ _ _ _ _ _ op_eq (@pe_op _ _ _ _ _ _ _ _ op_and (pv 0) pe_int) pe_int (@nomark _ _ (by decide) (by decide))) (@pss_one _ _ _ (@ps_ret _ _ _ _ pe_int)) pss_nil) (@pss_one _ _ _ (@ps_ret _ _ _ _ (@pe_op _ _ _ _ _ _ _ _ op_sub pe_int (@pe_op _ _ _ _ _ _ _ _ op_and (pv 0) pe_int)))))), ?_⟩
  rw [show start ["number"] [.int n] = [some (.int n)] from rfl]
  (iterate 5 ((try (walk_at "WP")); (try (simp only [and1, and3, Option.some.injEq, HO.tup.injEq, HO.lst.injEq, HO.dK.injEq, exists_eq_left', exists_eq_left])))); (try (walk_at "WP"))
  unfold fs at q
  refine ite2 (fun c => ?_) (fun c => ?_)
  · rw [if_pos c] at q
    exact q
  · rw [if_neg c] at q
    exact q
theorem ok_signs (T : Txt K mg) : Cal P w K mg base 2 "signs" ["number"] spSigns := by
  have B := T.bl
  have C_first_sign := ok_first (P := P) (w := w) (base := base) T
  refine mkCal T.t_signs sc_signs (fun vs H Q E h => ?_) (fun f cdv A outer s H vs Q E hr h => ?_)
  · obtain ⟨n, rfl, _⟩ := h
    rfl
  obtain ⟨n, rfl, hb, q⟩ := h
  refine ⟨_, ((@pss_cons _ _ _ _ _ (@ps_set _ _ (1) _ _ _ _ sc_signs.nd rfl (by first | exact Or.inl rfl | exact Or.inr rfl) (@pe_lst _ _ _ _ pa_nil) (by rfl) (by first | exact .inl rfl | exact .inr rfl | assumption)) (@pss_cons _ _ _ _ _ (@ps_set _ _ (2) _ _ _ _ sc_signs.nd rfl (by first | exact Or.inl rfl | exact Or.inr rfl) (pv 0) (by rfl) (by first | exact .inl rfl | exact .inr rfl | assumption)) (@pss_cons _ _ _ _ _ (@ps_whl _ _ _ _ _ _ PassesOwn.never (@pt_cmpR _ _ _ _ _ _ _ _ op_ne (pv 2) pe_int (@nomark _ _ (by decide) (by decide))) (@pss_cons _ _ _ _ _ (@ps_set _ _ (3) _ _ _ _ sc_signs.nd rfl (by first | exact Or.inl rfl | exact Or.inr rfl) (@pe_cal _ _ _ _ _ _ _ _ _ _ C_first_sign hr rfl (@pa_cons _ _ _ _ _ (pv 2) pa_nil (by rfl)) (by decide) (by rfl) (by rfl)) (by rfl) (by first | exact .inl rfl | exact .inr rfl | assumption)) (@pss_cons _ _ _ _ _ (@ps_expr _ _ _ _ (@pe_bm _ _ _ _ _ _ _ _ _ _ _ _ PySem.F.plainAttrs_list PySem.F.slot_list_append PySem.F.type_list_append mt_append (pv 1) (@pa_cons _ _ _ _ _ (pv 3) pa_nil (by rfl)) (by rfl) (by rfl) (by rfl) (by rfl) (by rfl)) (by rfl)) (@pss_one _ _ _ (@ps_set _ _ (2) _ _ _ _ sc_signs.nd rfl (by first | exact Or.inl rfl | exact Or.inr rfl) (@pe_op _ _ _ _ _ _ _ _ op_shr (@pe_op _ _ _ _ _ _ _ _ op_sub (pv 2) (pv 3)) pe_int) (by rfl) (by first | exact .inl rfl | exact .inr rfl | assumption)))))) (@pss_one _ _ _ (@ps_ret _ _ _ _ (pv 1))))))), ?_⟩
  rw [show start ["number", "digits", "rest", "digit"] [.int n] = [some (.int n), none, none, none] from rfl]
  try walk_at "WP"
  intro r hr0
  have hlen := naf_len 5000 n hb
  refine whl (fun m σ H' => ∃ (rest : Int) (ds : List Int) (o : Option V), m = rest.natAbs ∧ σ = [some (.int n), some (.ref r), some (.int rest), o] ∧ H' = upd H r (.lst (ds.map V.int)) ∧ ds ++ naf rest = naf n) n.natAbs ⟨n, [], none, rfl, rfl, rfl, rfl⟩ ?_
  rintro m σ H' N ⟨rest, ds, o, rfl, rfl, rfl, e⟩ hN
  try walk_at "WP"
  refine ite2 (fun c => ?_) (fun c => ?_)
  · refine ⟨rest, rfl, ?_⟩
    have hd : ds.length + 1 ≤ (naf n).length := by rw [← e, naf_step c, List.length_append, List.length_cons]; omega
    have hsz : (ds.map V.int).length < sizeLine := by
      rw [List.length_map]
      exact Nat.lt_of_lt_of_le (by omega : ds.length < 10000) (by decide)
    try walk_at "WP"
    refine ⟨ty_list upd_same, hsz, hN _ _ _ (fs_lt c) ⟨_, ds ++ [fs rest], some (.int (fs rest)), rfl, by simp, ?_, ?_⟩⟩
    · rw [upd_upd, List.map_append]
      rfl
    · rw [List.append_assoc, ← e, naf_step c]
      rfl
  · have z : rest = 0 := Decidable.not_not.mp c
    subst z
    rw [naf_zero, List.append_nil] at e
    rw [e]
    exact q r hr0
end

section
variable {P : Program} {w : World} {K : PySem.W.Frag} {mg : Str → Option Value} {base : Heap}
theorem ok_least (T : Txt K mg) : Cal P w K mg base 3 "least" ["number"] spLeast := by
  have B := T.bl
  have C_signs := ok_signs (P := P) (w := w) (base := base) T
  refine mkCal T.t_least sc_least (fun vs H Q E h => ?_) (fun f cdv A outer s H vs Q E hr h => ?_)
  · obtain ⟨n, rfl, _⟩ := h
    rfl
  obtain ⟨n, rfl, hb, q⟩ := h
  refine ⟨_, ((@pss_one _ _ _ (@ps_ret _ _ _ _ (@pe_callB _ _ _ _ _ _ _ _ _ call_lenM rfl B.len bo_len (@pa_cons _ _ _ _ _ (@pe_compC _ _ _ _ _ _ _ _ (["digit"]) (1) ([]) _ _ _ rfl (@pi_list _ _ _ _ (@pe_cal _ _ _ _ _ _ _ _ _ _ C_signs hr rfl (@pa_cons _ _ _ _ _ (pv 0) pa_nil (by rfl)) (by decide) (by rfl) (by rfl))) (fun nd C s H fp => ⟨(@pg_name _ _ (0) _ nd rfl (by first | exact Or.inl rfl | exact Or.inr rfl) (by first | exact .inl rfl | exact .inr rfl | assumption)), (@pn_one _ _ _ (@pt_cmpR _ _ _ _ _ _ _ _ op_ne (pv 0) pe_int (@nomark _ _ (by decide) (by decide)))), (pv 0)⟩) (by decide +kernel) (by first | rfl | decide +kernel) (by first | rfl | decide +kernel) rfl (fun _ => rfl)) pa_nil (by rfl)) (by decide) (by decide) (by rfl) (by rfl))))), ?_⟩
  rw [show start ["number"] [.int n] = [some (.int n)] from rfl]
  try walk_at "WP"
  refine ⟨n, rfl, hb, fun r hr => ?_⟩
  have sm := same_new hr (.lst ((naf n).map V.int))
  have hr1 : upd H r (.lst ((naf n).map V.int)) r = some (.lst ((naf n).map V.int)) := upd_same
  generalize upd H r (.lst ((naf n).map V.int)) = H1 at sm hr1 ⊢
  try walk_at "WP"
  refine ⟨⟨_, SqL.of hr1⟩, ?_⟩
  refine comp_L (f := fltV) (SqL.of hr1) (by rw [List.length_map]; exact le_big (Nat.le_trans (naf_len 5000 n hb) (by decide))) (fun x H' R hx hS' hR => ?_) (fun w hw => ?_)
  · obtain ⟨d, hd, rfl⟩ := List.mem_map.mp hx
    try walk_at "WP"
    refine ite2 (fun c => ?_) (fun c => ?_)
    · rw [fltV_ne c] at hR
      exact hR
    · rw [Decidable.not_not.mp c] at hR
      exact hR
  rw [flt_len_map]
  have sm2 := same_new hw (.lst (((naf n).filter fun d => decide (d ≠ 0)).map V.int))
  refine ⟨w, rfl, _, upd_same, ?_⟩
  rw [List.length_map]
  exact q _ (sm.trans sm2)
end

section
variable {P : Program} {w : World} {K : PySem.W.Frag} {mg : Str → Option Value} {base : Heap}
theorem ok_lsigns (T : Txt K mg) : Cal P w K mg base 1 "_law_signs" ["_law_number"] spLSigns := by
  have B := T.bl
  refine mkCal T.t_l_signs sc_l_signs (fun vs H Q E h => ?_) (fun f cdv A outer s H vs Q E hr h => ?_)
  · obtain ⟨n, rfl, _⟩ := h
    rfl
  obtain ⟨n, rfl, hb, q⟩ := h
  refine ⟨_, ((@pss_cons _ _ _ _ _ (@ps_set _ _ (1) _ _ _ _ sc_l_signs.nd rfl (by first | exact Or.inl rfl | exact Or.inr rfl) (@pe_callB _ _ _ _ _ _ _ _ _ call_abs rfl B.abs bo_abs (@pa_cons _ _ _ _ _ (pv 0) pa_nil (by rfl)) (by decide) (by decide) (by rfl) (by rfl)) (by rfl) (by first | exact .inl rfl | exact .inr rfl | assumption)) (@pss_cons _ _ _ _ _ (@ps_set _ _ (2) _ _ _ _ sc_l_signs.nd rfl (by first | exact Or.inl rfl | exact Or.inr rfl) (@pe_lst _ _ _ _ pa_nil) (by rfl) (by first | exact .inl rfl | exact .inr rfl | assumption)) (@pss_cons _ _ _ _ _ (@ps_set _ _ (3) _ _ _ _ sc_l_signs.nd rfl (by first | exact Or.inl rfl | exact Or.inr rfl) pe_int (by rfl) (by first | exact .inl rfl | exact .inr rfl | assumption)) (@pss_cons _ _ _ _ _ (@ps_whl _ _ _ _ _ _ PassesOwn.never (@pt_cmpR _ _ _ _ _ _ _ _ op_gt (@pe_op _ _ _ _ _ _ _ _ op_shr (@pe_op _ _ _ _ _ _ _ _ op_mulB pe_int (pv 1)) (pv 3)) pe_int (@nomark _ _ (by decide) (by decide))) (@pss_cons _ _ _ _ _ (@ps_expr _ _ _ _ (@pe_bm _ _ _ _ _ _ _ _ _ _ _ _ PySem.F.plainAttrs_list PySem.F.slot_list_append PySem.F.type_list_append mt_append (pv 2) (@pa_cons _ _ _ _ _ (@pe_op _ _ _ _ _ _ _ _ op_sub (@pe_op _ _ _ _ _ _ _ _ op_and (@pe_op _ _ _ _ _ _ _ _ op_shr (@pe_op _ _ _ _ _ _ _ _ op_mulB pe_int (pv 1)) (pv 3)) pe_int) (@pe_op _ _ _ _ _ _ _ _ op_and (@pe_op _ _ _ _ _ _ _ _ op_shr (pv 1) (pv 3)) pe_int)) pa_nil (by rfl)) (by rfl) (by rfl) (by rfl) (by rfl) (by rfl)) (by rfl)) (@pss_one _ _ _ (@ps_set _ _ (3) _ _ _ _ sc_l_signs.nd rfl (by first | exact Or.inl rfl | exact Or.inr rfl) (@pe_op _ _ _ _ _ _ _ _ op_add (pv 3) pe_int) (by rfl) (by first | exact .inl rfl | exact .inr rfl | assumption))))) (@pss_cons _ _ _ _ _ (@ps_if _ _ _ _ _ _ _ _ (@pt_cmpR _ _ _ _ _ _ _ _ op_lt (pv 0) pe_int (@nomark _ _ (by decide) (by decide))) (@pss_one _ _ _ (@ps_setCompC _ _ _ _ (2) _ _ _ _ _ _ _ (["_law_digit"]) (1) ([]) _ _ _ rfl (@pi_list _ _ _ _ (pv 2)) (fun nd C s H fp => ⟨(@pg_name _ _ (0) _ nd rfl (by first | exact Or.inl rfl | exact Or.inr rfl) (by first | exact .inl rfl | exact .inr rfl | assumption)), pn_nil, (@pe_op _ _ _ _ _ _ _ _ op_sub pe_int (pv 0))⟩) (by decide +kernel) (by first | rfl | decide +kernel) (by first | rfl | decide +kernel) rfl (fun _ => rfl) sc_l_signs.nd rfl (by first | exact Or.inl rfl | exact Or.inr rfl) (by first | exact .inl rfl | exact .inr rfl) rfl)) pss_nil) (@pss_one _ _ _ (@ps_ret _ _ _ _ (pv 2))))))))), ?_⟩
  rw [show start ["_law_number", "_law_size", "_law_found", "_law_place"] [.int n] = [some (.int n), none, none, none] from rfl]
  try walk_at "WP"
  intro r hr0
  generalize hsz : (if n < 0 then -n else n) = sz
  have hs0 : 0 ≤ sz := by rw [← hsz]; split <;> omega
  have hsb : sz.natAbs < 2 ^ 5000 := by
    have : sz.natAbs = n.natAbs := by rw [← hsz]; split <;> omega
    rw [this]; exact hb
  have hlen := naf_len 5000 sz hsb
  refine whl (fun m σ H' => ∃ k : Nat, m = (naf sz).length - k ∧ k ≤ (naf sz).length ∧ σ = [some (.int n), some (.int sz), some (.ref r), some (.int ((k : Int) + 1))] ∧ H' = upd H r (.lst (((naf sz).take k).map V.int))) _ ⟨0, rfl, Nat.zero_le _, by simp, by simp⟩ ?_
  rintro m σ H' N ⟨k, rfl, hk, rfl, rfl⟩ hN
  have hkn : ((k : Int) + 1).toNat = k + 1 := by omega
  obtain ⟨ba, bb⟩ := naf_bits k sz hs0
  (iterate 5 ((try (walk_at "WP")); (try (simp only [and1, Option.some.injEq, HO.tup.injEq, HO.lst.injEq, HO.dK.injEq, exists_eq_left', exists_eq_left])))); (try (walk_at "WP"))
  rw [hkn]
  refine ⟨mul_l (by decide) (by decide), by omega, ite2 (fun c => ?_) (fun c => ?_)⟩
  · have lt := ba.mpr c
    have hd := bb _ (List.getElem?_eq_getElem lt)
    have last : (((naf sz).take k).map V.int).length < sizeLine ∧ N [some (V.int n), some (V.int sz), some (V.ref r), some (V.int ((k : Int) + 1 + 1))] (upd (upd H r (HO.lst (List.map V.int (List.take k (naf sz))))) r (HO.lst (List.map V.int (List.take k (naf sz)) ++ [V.int (3 * sz / 2 ^ (k + 1) % 2 - sz / 2 ^ (k + 1) % 2)]))) := by
      refine ⟨by rw [List.length_map, List.length_take]; exact lt_big (by omega), hN _ _ _ (show (naf sz).length - (k + 1) < (naf sz).length - k by omega) ⟨k + 1, rfl, lt, by simp, ?_⟩⟩
      rw [upd_upd, List.take_add_one, List.getElem?_eq_getElem lt, hd, List.map_append]
      rfl
    have i0 : (0 : Int) ≤ (k : Int) + 1 := by omega
    first
      | exact ⟨ty_list upd_same, mul_l (by decide) (by decide), i0, last⟩
      | exact ⟨ty_list upd_same, mul_l (by decide) (by decide), i0, i0, last⟩
      | exact ⟨ty_list upd_same, ⟨mul_l (by decide) (by decide), i0⟩, i0, last⟩
  · have e : k = (naf sz).length := by
      have := mt ba.mp c
      omega
    subst e
    rw [List.take_length]
    refine ite2 (fun hn => ?_) (fun hn => ?_)
    · rw [if_pos hn] at hsz
      refine ⟨⟨_, SqL.of upd_same⟩, ?_⟩
      refine comp_L (f := fun x => match x with | .int d => some (.int (0 - d)) | _ => none) (SqL.of upd_same) (by rw [List.length_map]; exact le_big (by omega)) (fun x H' R hx hS' hR => ?_) (fun w hw => ?_)
      · obtain ⟨d, hd, rfl⟩ := List.mem_map.mp hx
        try walk_at "WP"
        exact hR
      have e9 : ((naf sz).map V.int).filterMap (fun x => match x with | .int d => some (.int (0 - d)) | _ => none) = (naf n).map V.int := by
        rw [show n = -sz by omega, naf_neg, List.filterMap_map, List.map_map]
        exact filterMap_some _ _
      rw [e9]
      have hwH : H w = none := by
        cases z : H w with
        | none => rfl
        | some o => rw [same_new hr0 (.lst ((naf sz).map V.int)) w o z] at hw; cases hw
      exact q w _ hwH (same_upd hwH (same_new hr0 _)) upd_same
    · rw [if_neg hn] at hsz
      subst hsz
      exact q r _ hr0 (same_new hr0 _) upd_same
end

section
variable {P : Program} {w : World} {K : PySem.W.Frag} {mg : Str → Option Value} {base : Heap}
theorem ok_lleast (T : Txt K mg) : Cal P w K mg base 3 "_law_least" ["_law_number"] spLeast := by
  have B := T.bl
  have C_l_signs := (ok_lsigns (P := P) (w := w) (base := base) T).mono (k := 2) (by decide)
  refine mkCal T.t_l_least sc_l_least (fun vs H Q E h => ?_) (fun f cdv A outer s H vs Q E hr h => ?_)
  · obtain ⟨n, rfl, _⟩ := h
    rfl
  obtain ⟨n, rfl, hb, q⟩ := h
  refine ⟨_, ((@pss_one _ _ _ (@ps_ret _ _ _ _ (@pe_callB _ _ _ _ _ _ _ _ _ call_lenM rfl B.len bo_len (@pa_cons _ _ _ _ _ (@pe_compC _ _ _ _ _ _ _ _ (["_law_digit"]) (1) ([]) _ _ _ rfl (@pi_list _ _ _ _ (@pe_cal _ _ _ _ _ _ _ _ _ _ C_l_signs hr rfl (@pa_cons _ _ _ _ _ (pv 0) pa_nil (by rfl)) (by decide) (by rfl) (by rfl))) (fun nd C s H fp => ⟨(@pg_name _ _ (0) _ nd rfl (by first | exact Or.inl rfl | exact Or.inr rfl) (by first | exact .inl rfl | exact .inr rfl | assumption)), (@pn_one _ _ _ (@pt_cmpR _ _ _ _ _ _ _ _ op_ne (pv 0) pe_int (@nomark _ _ (by decide) (by decide)))), (pv 0)⟩) (by decide +kernel) (by first | rfl | decide +kernel) (by first | rfl | decide +kernel) rfl (fun _ => rfl)) pa_nil (by rfl)) (by decide) (by decide) (by rfl) (by rfl))))), ?_⟩
  rw [show start ["_law_number"] [.int n] = [some (.int n)] from rfl]
  try walk_at "WP"
  refine ⟨n, rfl, hb, fun r H1 hr sm hr1 => ?_⟩
  try walk_at "WP"
  refine ⟨⟨_, SqL.of hr1⟩, ?_⟩
  refine comp_L (f := fltV) (SqL.of hr1) (by rw [List.length_map]; exact le_big (Nat.le_trans (naf_len 5000 n hb) (by decide))) (fun x H' R hx hS' hR => ?_) (fun w hw => ?_)
  · obtain ⟨d, hd, rfl⟩ := List.mem_map.mp hx
    try walk_at "WP"
    refine ite2 (fun c => ?_) (fun c => ?_)
    · rw [fltV_ne c] at hR
      exact hR
    · rw [Decidable.not_not.mp c] at hR
      exact hR
  rw [flt_len_map]
  have sm2 := same_new hw (.lst (((naf n).filter fun d => decide (d ≠ 0)).map V.int))
  refine ⟨w, rfl, _, upd_same, ?_⟩
  rw [List.length_map]
  exact q _ (sm.trans sm2)
end

section
variable {P : Program} {w : World} {K : PySem.W.Frag} {mg : Str → Option Value} {base : Heap}
theorem ok_whole (T : Txt K mg) : Cal P w K mg base 1 "_law_whole" ["_law_thing"] spWhole := by
  have B := T.bl
  refine mkCal T.t_l_whole sc_l_whole (fun vs H Q E h => ?_) (fun f cdv A outer s H vs Q E hr h => ?_)
  · obtain ⟨n, rfl, _⟩ := h
    rfl
  obtain ⟨n, rfl, q⟩ := h
  refine ⟨_, ((@pss_one _ _ _ (@ps_ret _ _ _ _ (@pe_and _ _ _ _ _ _ _ (@pe_callB _ _ _ _ _ _ _ _ _ call_isI rfl B.isinstance bo_isinstance (@pa_cons _ _ _ _ _ (pv 0) (@pa_cons _ _ _ _ _ (@pe_bltn _ _ (.ty "int") _ _ rfl B.int bo_int rfl (by decide) (by decide)) pa_nil (by rfl)) (by rfl)) (by decide) (by decide) (by rfl) (by rfl)) (@pe_one _ _ _ _ _ (@pe_not _ _ _ _ (@pe_callB _ _ _ _ _ _ _ _ _ call_isI rfl B.isinstance bo_isinstance (@pa_cons _ _ _ _ _ (pv 0) (@pa_cons _ _ _ _ _ (@pe_bltn _ _ (.ty "bool") _ _ rfl B.bool bo_bool rfl (by decide) (by decide)) pa_nil (by rfl)) (by rfl)) (by decide) (by decide) (by rfl) (by rfl)))))))), ?_⟩
  rw [show start ["_law_thing"] [.int n] = [some (.int n)] from rfl]
  try walk_at "WP"
  exact q
end

section
variable {P : Program} {w : World} {K : PySem.W.Frag} {mg : Str → Option Value} {base : Heap}
theorem ok_isdig (T : Txt K mg) : Cal P w K mg base 2 "_law_is_digits" ["_law_found"] spIsDig := by
  have B := T.bl
  have C_l_whole := ok_whole (P := P) (w := w) (base := base) T
  refine mkCal T.t_l_is_digits sc_l_is_digits (fun vs H Q E h => ?_) (fun f cdv A outer s H vs Q E hr h => ?_)
  · obtain ⟨n, ds, rfl, _⟩ := h
    rfl
  obtain ⟨a, ds, rfl, hH, hl, hd, q⟩ := h
  refine ⟨_, ((@pss_cons _ _ _ _ _ (@ps_if _ _ _ _ _ _ _ _ (@pt_not _ _ _ _ (@pt_val _ _ _ (@pe_callB _ _ _ _ _ _ _ _ _ call_isI rfl B.isinstance bo_isinstance (@pa_cons _ _ _ _ _ (pv 0) (@pa_cons _ _ _ _ _ (@pe_bltn _ _ (.ty "list") _ _ rfl B.list bo_list rfl (by decide) (by decide)) pa_nil (by rfl)) (by rfl)) (by decide) (by decide) (by rfl) (by rfl)) (by intro _ ; rfl))) (@pss_one _ _ _ (@ps_ret _ _ _ _ pe_bl)) pss_nil) (@pss_one _ _ _ (@ps_ret _ _ _ _ (@pe_callB _ _ _ _ _ _ _ _ _ (@call_all _ rfl) rfl B.all bo_all (@pa_cons _ _ _ _ _ (@pe_compC _ _ _ _ _ _ _ _ (["_law_digit"]) (1) ([]) _ _ _ rfl (@pi_list _ _ _ _ (pv 0)) (fun nd C s H fp => ⟨(@pg_name _ _ (0) _ nd rfl (by first | exact Or.inl rfl | exact Or.inr rfl) (by first | exact .inl rfl | exact .inr rfl | assumption)), pn_nil, (@pe_and _ _ _ _ _ _ _ (@pe_cal _ _ _ _ _ _ _ _ _ _ C_l_whole hr rfl (@pa_cons _ _ _ _ _ (pv 0) pa_nil (by rfl)) (by decide) (by rfl) (by rfl)) (@pe_one _ _ _ _ _ (@pe_chain _ _ _ _ _ _ _ _ _ _ _ _ op_le op_le (@pe_un _ _ _ _ _ _ un_neg pe_int) (pv 0) pe_int (by with_unfolding_all rfl))))⟩) (by decide +kernel) (by first | rfl | decide +kernel) (by first | rfl | decide +kernel) rfl (fun _ => rfl)) pa_nil (by rfl)) (by decide) (by decide) (by rfl) (by rfl)))))), ?_⟩
  rw [show start ["_law_found"] [.ref a] = [some (.ref a)] from rfl]
  try walk_at "WP"
  rw [isI_ll hH]
  try walk_at "WP"
  refine ⟨⟨_, SqL.of hH⟩, ?_⟩
  refine comp_L (f := fun _ => some (.bl true)) (SqL.of hH) (by rw [List.length_map]; exact le_big (by omega)) (fun x H' R hx hS' hR => ?_) (fun w hw => ?_)
  · obtain ⟨d, hdm, rfl⟩ := List.mem_map.mp hx
    try walk_at "WP"
    refine ⟨d, rfl, ?_⟩
    try walk_at "WP"
    have := hd d hdm
    refine ite2 (fun _ => ?_) (fun c => absurd (by omega) c)
    rw [decide_eq_true (by omega : d ≤ 1)]
    exact hR
  have e9 : (ds.map V.int).filterMap (fun _ => some (V.bl true)) = (List.replicate ds.length true).map V.bl := by
    rw [filterMap_some, List.map_map, List.map_replicate]
    exact List.map_const' ..
  rw [e9]
  refine ⟨w, _, rfl, upd_same, ?_⟩
  rw [show (List.replicate ds.length true).all id = true by simp]
  exact q _ (same_new hw _)
end

section
variable {P : Program} {w : World} {K : PySem.W.Frag} {mg : Str → Option Value} {base : Heap}
theorem ok_sum (T : Txt K mg) : Cal P w K mg base 1 "_law_sum" ["_law_digits"] spSum := by
  have B := T.bl
  refine mkCal T.t_l_sum sc_l_sum (fun vs H Q E h => ?_) (fun f cdv A outer s H vs Q E hr h => ?_)
  · obtain ⟨n, ds, rfl, _⟩ := h
    rfl
  obtain ⟨a, ds, rfl, hH, hl, hd, q⟩ := h
  refine ⟨_, ((@pss_cons _ _ _ _ _ (@ps_set _ _ (1) _ _ _ _ sc_l_sum.nd rfl (by first | exact Or.inl rfl | exact Or.inr rfl) pe_int (by rfl) (by first | exact .inl rfl | exact .inr rfl | assumption)) (@pss_cons _ _ _ _ _ (@ps_for _ _ _ _ _ _ _ _ PassesOwn.never rfl (@pi_range1 _ _ _ _ _ _ rfl B.range (@pa_cons _ _ _ _ _ (@pe_callB _ _ _ _ _ _ _ _ _ call_lenM rfl B.len bo_len (@pa_cons _ _ _ _ _ (pv 0) pa_nil (by rfl)) (by decide) (by decide) (by rfl) (by rfl)) pa_nil (by rfl)) (by rfl)) (@pg_name _ _ (2) _ sc_l_sum.nd rfl (by first | exact Or.inl rfl | exact Or.inr rfl) (by first | exact .inl rfl | exact .inr rfl | assumption)) (@pss_one _ _ _ (@ps_set _ _ (1) _ _ _ _ sc_l_sum.nd rfl (by first | exact Or.inl rfl | exact Or.inr rfl) (@pe_op _ _ _ _ _ _ _ _ op_add (pv 1) (@pe_op _ _ _ _ _ _ _ _ op_mulB (@pe_ix _ _ _ _ _ _ _ ix_M (pv 0) (pv 2) (fun _ _ => rfl)) (@pe_op _ _ _ _ _ _ _ _ op_shlB pe_int (pv 2)))) (by rfl) (by first | exact .inl rfl | exact .inr rfl | assumption))) (by intro _ ; rfl)) (@pss_one _ _ _ (@ps_ret _ _ _ _ (pv 1)))))), ?_⟩
  rw [show start ["_law_digits", "_law_total", "_law_k"] [.ref a] = [some (.ref a), none, none] from rfl]
  (iterate 5 ((try (walk_at "WP")); (try (simp only [hH, Option.some.injEq, HO.tup.injEq, HO.lst.injEq, HO.dK.injEq, exists_eq_left', exists_eq_left])))); (try (walk_at "WP"))
  rw [List.length_map]
  refine ⟨by omega, by omega, ?_⟩
  refine forR (fun i σ H' => ∃ o, σ = [some (.ref a), some (.int (val (ds.take i))), o] ∧ H' = H) ⟨none, by simp [val], rfl⟩ ?_ ?_
  · rintro i σ H' N hi ⟨o, rfl, rfl⟩ hN
    have hi : i < ds.length := by omega
    (iterate 5 ((try (walk_at "WP")); (try (simp only [hH, Option.some.injEq, HO.tup.injEq, HO.lst.injEq, HO.dK.injEq, exists_eq_left', exists_eq_left])))); (try (walk_at "WP"))
    obtain ⟨d, h1, h2⟩ := atI_int (ns := ds) (i := 0 + (i : Int)) (by omega) (by omega)
    rw [show (0 + (i : Int)).toNat = i by omega] at h2
    refine ⟨_, h1, ⟨by omega, by omega⟩, ?_⟩
    try walk_at "WP"
    have hdd := hd d (List.mem_of_getElem? h2)
    refine ⟨mul_l (by omega) (by omega), hN _ _ ⟨some (.int (0 + i)), ?_, rfl⟩⟩
    rw [val_take h2, show (0 + (i : Int)).toNat = i by omega, Int.one_mul]
  · rintro σ H' ⟨o, rfl, rfl⟩
    try walk_at "WP"
    rw [Int.toNat_natCast, List.take_length]
    exact q
end

section
variable {P : Program} {w : World} {K : PySem.W.Frag} {mg : Str → Option Value} {base : Heap}
theorem ok_steps (T : Txt K mg) : Cal P w K mg base 4 "steps" ["rest", "places"] spSteps := by
  have B := T.bl
  have C_least := ok_least (P := P) (w := w) (base := base) T
  refine mkCal T.t_steps sc_steps (fun vs H Q E h => ?_) (fun f cdv A outer s H vs Q E hr h => ?_)
  · obtain ⟨n, p, rfl, _⟩ := h
    rfl
  obtain ⟨n, p, rfl, hb, hp, q⟩ := h
  refine ⟨_, ((@pss_cons _ _ _ _ _ (@ps_if _ _ _ _ _ _ _ _ (@pt_cmpR _ _ _ _ _ _ _ _ op_gt (@pe_bm0 _ _ _ _ _ _ _ _ _ PySem.F.plainAttrs_int PyProof.Rows.slot_int_bit_length PyProof.Rows.type_int_bit_length mt_bits (pv 0) (by rfl) (by rfl)) (pv 1) (@nomark _ _ (by decide) (by decide))) (@pss_one _ _ _ (@ps_ret _ _ _ _ (@pe_lst _ _ _ _ pa_nil))) pss_nil) (@pss_cons _ _ _ _ _ (@ps_if _ _ _ _ _ _ _ _ (@pt_cmpR _ _ _ _ _ _ _ _ op_eq (@pe_op _ _ _ _ _ _ _ _ op_and (pv 0) pe_int) pe_int (@nomark _ _ (by decide) (by decide))) (@pss_one _ _ _ (@ps_ret _ _ _ _ (@pe_lst _ _ _ _ (@pa_cons _ _ _ _ _ (@pe_tup _ _ _ _ _ (@pa_cons _ _ _ _ _ pe_int (@pa_cons _ _ _ _ _ (@pe_op _ _ _ _ _ _ _ _ op_shr (pv 0) pe_int) pa_nil (by rfl)) (by rfl))) pa_nil (by rfl))))) pss_nil) (@pss_cons _ _ _ _ _ (@ps_set _ _ (2) _ _ _ _ sc_steps.nd rfl (by first | exact Or.inl rfl | exact Or.inr rfl) (@pe_cal _ _ _ _ _ _ _ _ _ _ C_least hr rfl (@pa_cons _ _ _ _ _ (pv 0) pa_nil (by rfl)) (by decide) (by rfl) (by rfl)) (by rfl) (by first | exact .inl rfl | exact .inr rfl | assumption)) (@pss_cons _ _ _ _ _ (@ps_setCompC _ _ _ _ (3) _ _ _ _ _ _ _ (["digit", "rest"]) (1) ([0]) _ _ _ rfl (@pi_tup _ _ _ _ (@pe_tup _ _ _ _ _ (@pa_cons _ _ _ _ _ (@pe_un _ _ _ _ _ _ un_neg pe_int) (@pa_cons _ _ _ _ _ pe_int pa_nil (by rfl)) (by rfl)))) (fun nd C s H fp => ⟨(@pg_name _ _ (0) _ nd rfl (by first | exact Or.inl rfl | exact Or.inr rfl) (by first | exact .inl rfl | exact .inr rfl | assumption)), pn_nil, (@pe_tup _ _ _ _ _ (@pa_cons _ _ _ _ _ (pv 0) (@pa_cons _ _ _ _ _ (@pe_op _ _ _ _ _ _ _ _ op_shr (@pe_op _ _ _ _ _ _ _ _ op_sub (pv 1) (pv 0)) pe_int) pa_nil (by rfl)) (by rfl)))⟩) (by decide +kernel) (by first | rfl | decide +kernel) (by first | rfl | decide +kernel) rfl (fun _ => rfl) sc_steps.nd rfl (by first | exact Or.inl rfl | exact Or.inr rfl) (by first | exact .inl rfl | exact .inr rfl) rfl) (@pss_one _ _ _ (@ps_ret _ _ _ _ (@pe_compC _ _ _ _ _ _ _ _ (["step", "count"]) (1) ([2]) _ _ _ rfl (@pi_list _ _ _ _ (pv 3)) (fun nd C s H fp => ⟨(@pg_name _ _ (0) _ nd rfl (by first | exact Or.inl rfl | exact Or.inr rfl) (by first | exact .inl rfl | exact .inr rfl | assumption)), (@pn_one _ _ _ (@pt_cmpR _ _ _ _ _ _ _ _ op_lt (@pe_cal _ _ _ _ _ _ _ _ _ _ C_least hr rfl (@pa_cons _ _ _ _ _ (@pe_ix _ _ _ _ _ _ _ ix_U (pv 0) pe_int (fun _ _ => rfl)) pa_nil (by rfl)) (by decide) (by rfl) (by rfl)) (pv 1) (@nomark _ _ (by decide) (by decide)))), (pv 0)⟩) (by decide +kernel) (by first | rfl | decide +kernel) (by first | rfl | decide +kernel) rfl (fun _ => rfl))))))))), ?_⟩
  rw [show start ["rest", "places", "count", "both"] [.int n, .int p] = [some (.int n), some (.int p), none, none] from rfl]
  try walk_at "WP"
  refine ite2 (fun z => ?_) (fun z => ?_)
  · intro r nr
    refine q r [] _ nr (same_new nr _) upd_same ?_
    rw [show stepsF n p = [] from if_pos (by omega)]
    exact hts_nil
  rw [and1]
  refine ite2 (fun z1 => ?_) (fun z1 => ?_)
  · intro t nt
    refine abs_ nt fun H1 s1 h1 => ?_
    intro r nr
    refine abs_ nr fun H2 s2 h2 => ?_
    refine q r [.ref t] _ (s1.free nr) (s1.trans s2) h2 ?_
    rw [show stepsF n p = [(0, n / 2)] from by unfold stepsF; rw [if_neg (by omega), if_pos z1]]
    exact HTs.snoc (vs := []) (xs := []) hts_nil (s2 _ _ h1)
  · refine ⟨n, rfl, big_of hb (by decide), fun H1 s1 => ?_⟩
    intro p1 np1
    refine abs_ np1 fun H2 s2 h2 => ?_
    refine ⟨⟨_, SqT.of h2⟩, ?_⟩
    refine comp_tups (f := stT) (xs := [V.int (-1), V.int 1]) [(-1, (n + 1) / 2), (1, (n - 1) / 2)] rfl (by decide) (fun H' s' => it_Ts (SqT.of h2) s') (fun i x z H' R hx hz s' hR => ?_) (fun ch us H3 nc s3 hc htc => ?_)
    · rw [show capV [0] [some (V.int n), some (V.int (p : Int)), some (V.int ((wt (naf n) : Nat) : Int)), none] = [some (V.int n)] from rfl]
      have hd : ∃ d : Int, x = .int d ∧ z = (d, (n - d) / 2) := by
        have two : i = 0 ∨ i = 1 := by
          have := (List.getElem?_eq_some_iff.mp hx).1
          simp at this
          omega
        rcases two with e | e <;> subst e <;> cases hx <;> cases hz
        · exact ⟨-1, rfl, by rw [show n - -1 = n + 1 by omega]⟩
        · exact ⟨1, rfl, rfl⟩
      obtain ⟨d, rfl, rfl⟩ := hd
      try walk_at "WP"
      intro r nr
      refine abs_ nr fun H5 s5 h5 => hR r _ nr s5 ?_
      rw [h5]
      rfl
    · obtain ⟨t1, e1, h1⟩ := htc.at_ 0 _ rfl
      obtain ⟨t2, e2, h2'⟩ := htc.at_ 1 _ rfl
      have ul : us.length = 2 := htc.len
      have eu : us = [.ref t1, .ref t2] := by
        match us, ul, e1, e2 with
        | [_, _], _, e1, e2 => cases e1; cases e2; rfl
      subst eu
      have t12 : t1 ≠ t2 := fun z => by rw [z, h2'] at h1; cases h1
      refine ⟨ch, rfl, ⟨_, SqL.of hc⟩, ?_⟩
      refine comp_newL (f := fun v => if v = .ref t1 then (if wn ((n + 1) / 2) < wn n then some v else none) else (if wn ((n - 1) / 2) < wn n then some v else none)) (SqL.of hc) (le_size (by show 2 ≤ 1000; decide)) (fun x H' R hx s' hR => ?_) (fun acc H' na s' ha => ?_)
      · rw [show capV [2] [some (V.int n), some (V.int (p : Int)), some (V.int ((wt (naf n) : Nat) : Int)), some (V.ref ch)] = [some (V.int ((wt (naf n) : Nat) : Int))] from rfl]
        have hx' : ∃ t m d, x = .ref t ∧ H3 t = some (.tup [.int d, .int m]) ∧ m.natAbs < 2 ^ 5000 ∧ ∀ H5, Same H' H5 → R (if wn m < wn n then some (.ref t) else none) H5 := by
          have h5 : ∀ m : Int, m.natAbs ≤ n.natAbs + 1 → m.natAbs < 2 ^ 5000 := fun m hm => by
            have : (2 : Nat) ^ 4000 + 1 ≤ 2 ^ 5000 := by
              have e : (2 : Nat) ^ 5000 = 2 ^ 4000 * 2 ^ 1000 := by rw [← Nat.pow_add]
              have p4 : 0 < (2 : Nat) ^ 4000 := Nat.two_pow_pos _
              have p1 : 2 ≤ (2 : Nat) ^ 1000 := Nat.le_trans (by decide) (Nat.pow_le_pow_right (by decide) (by decide : 1 ≤ 1000))
              rw [e]
              have := Nat.mul_le_mul_left (2 ^ 4000) p1
              omega
            omega
          rcases List.mem_cons.mp hx with e | e
          · subst e
            refine ⟨t1, _, _, rfl, h1, h5 _ (by omega), fun H5 s5 => ?_⟩
            have := hR H5 s5
            rw [if_pos rfl] at this
            exact this
          · have e := List.mem_singleton.mp e
            subst e
            refine ⟨t2, _, _, rfl, h2', h5 _ (by omega), fun H5 s5 => ?_⟩
            have := hR H5 s5
            rw [if_neg (fun z => t12 (V.ref.inj z).symm)] at this
            exact this
        obtain ⟨t, m, d, rfl, ht, hm, hR⟩ := hx'
        have ht' := s' _ _ ht
        (iterate 5 ((try (walk_at "WP")); (try (simp only [ht', Option.some.injEq, HO.tup.injEq, HO.lst.injEq, HO.dK.injEq, exists_eq_left', exists_eq_left])))); (try (walk_at "WP"))
        refine ⟨m, rfl, hm, fun H5 s5 => ?_⟩
        have hq := hR H5 s5
        refine ⟨_, _, rfl, rfl, _, rfl, ?_⟩
        by_cases c : wn m < wn n
        · rw [if_pos c] at hq
          rw [if_pos (decide_eq_true (show ((wn m : Nat) : Int) < ((wn n : Nat) : Int) by omega))]
          exact hq
        · rw [if_neg c] at hq
          rw [if_neg (fun z => c (by have : ((wn m : Nat) : Int) < ((wn n : Nat) : Int) := of_decide_eq_true z; omega))]
          exact hq
      · refine q acc _ _ (((s1.trans s2).trans s3).free na) (((s1.trans s2).trans s3).trans s') ha ?_
        rw [show stepsF n p = [(-1, (n + 1) / 2), (1, (n - 1) / 2)].filter fun s => decide (wn s.2 < wn n) from by unfold stepsF; rw [if_neg (by omega), if_neg z1]]
        have n21 : ¬ V.ref t2 = V.ref t1 := fun z => t12 (V.ref.inj z).symm
        have k1 := s' _ _ h1
        have k2 := s' _ _ h2'
        have one : ∀ {t : Addr} {s : Int × Int}, H' t = some (.tup (stT s)) → HTs stT H' [.ref t] [s] := fun h => HTs.snoc (vs := []) (xs := []) hts_nil h
        by_cases b1 : wn ((n + 1) / 2) < wn n <;> by_cases b2 : wn ((n - 1) / 2) < wn n <;> simp only [List.filterMap_cons, List.filterMap_nil, List.filter_cons, List.filter_nil, if_pos, if_neg, n21, b1, b2, decide_true, decide_false, if_true, if_false, reduceCtorEq]
        · exact HTs.snoc (one k1) k2
        · exact one k1
        · exact one k2
        · exact hts_nil
end

section
variable {P : Program} {w : World} {K : PySem.W.Frag} {mg : Str → Option Value} {base : Heap}
theorem ok_levels (T : Txt K mg) : Cal P w K mg base 5 "levels" ["number", "places"] spLevels := by
  have B := T.bl
  have C_steps := ok_steps (P := P) (w := w) (base := base) T
  refine mkCal T.t_levels sc_levels (fun vs H Q E h => ?_) (fun f cdv A outer s H vs Q E hr h => ?_)
  · obtain ⟨n, p, rfl, _⟩ := h
    rfl
  obtain ⟨n, P0, rfl, hb, hp, q⟩ := h
  refine ⟨_, ((@pss_cons _ _ _ _ _ (@ps_set _ _ (2) _ _ _ _ sc_levels.nd rfl (by first | exact Or.inl rfl | exact Or.inr rfl) (@pe_lst _ _ _ _ pa_nil) (by rfl) (by first | exact .inl rfl | exact .inr rfl | assumption)) (@pss_cons _ _ _ _ _ (@ps_set _ _ (3) _ _ _ _ sc_levels.nd rfl (by first | exact Or.inl rfl | exact Or.inr rfl) (@pe_disp _ _ _ _ _ (@pps_cons _ _ _ _ _ _ _ _ _ (pv 0) pe_bl pps_nil) rfl rfl (by simp) (by decide)) (by rfl) (by first | exact .inl rfl | exact .inr rfl | assumption)) (@pss_cons _ _ _ _ _ (@ps_for _ _ _ _ _ _ _ _ PassesOwn.never rfl (@pi_range1 _ _ _ _ _ _ rfl B.range (@pa_cons _ _ _ _ _ (pv 1) pa_nil (by rfl)) (by rfl)) (@pg_name _ _ (4) _ sc_levels.nd rfl (by first | exact Or.inl rfl | exact Or.inr rfl) (by first | exact .inl rfl | exact .inr rfl | assumption)) (@pss_cons _ _ _ _ _ (@ps_set _ _ (5) _ _ _ _ sc_levels.nd rfl (by first | exact Or.inl rfl | exact Or.inr rfl) pe_dnewK (by rfl) (by first | exact .inl rfl | exact .inr rfl | assumption)) (@pss_cons _ _ _ _ _ (@ps_set _ _ (6) _ _ _ _ sc_levels.nd rfl (by first | exact Or.inl rfl | exact Or.inr rfl) pe_dnewK (by rfl) (by first | exact .inl rfl | exact .inr rfl | assumption)) (@pss_cons _ _ _ _ _ (@ps_for _ _ _ _ _ _ _ _ PassesOwn.never rfl (@pi_dict _ _ _ _ (@pe_frz _ _ _ (pv 3))) (@pg_name _ _ (7) _ sc_levels.nd rfl (by first | exact Or.inl rfl | exact Or.inr rfl) (by first | exact .inl rfl | exact .inr rfl | assumption)) (@pss_cons _ _ _ _ _ (@ps_dpM _ _ _ _ _ _ _ _ _ (@hu_of _ _ hr) (pv 5) (pv 7) (@pe_cal _ _ _ _ _ _ _ _ _ _ C_steps hr rfl (@pa_cons _ _ _ _ _ (pv 7) (@pa_cons _ _ _ _ _ (@pe_op _ _ _ _ _ _ _ _ op_sub (pv 1) (pv 4)) pa_nil (by rfl)) (by rfl)) (by decide) (by rfl) (by rfl)) rfl) (@pss_one _ _ _ (@ps_for _ _ _ _ _ _ _ _ PassesOwn.never rfl (@pi_list _ _ _ _ (@pe_dgM _ _ _ _ _ _ (@hu_of _ _ hr) (pv 5) (pv 7) (fun _ _ => rfl))) (@pg_tupM _ _ _ _ _ 2 rfl (@pgs_cons _ _ _ _ _ (@pg_name _ _ (8) _ sc_levels.nd rfl (by first | exact Or.inl rfl | exact Or.inr rfl) (by first | exact .inl rfl | exact .inr rfl | assumption)) (@pgs_cons _ _ _ _ _ (@pg_name _ _ (9) _ sc_levels.nd rfl (by first | exact Or.inl rfl | exact Or.inr rfl) (by first | exact .inl rfl | exact .inr rfl | assumption)) pgs_nil (by rfl)) (by rfl)) (by rfl) (by rfl)) (@pss_one _ _ _ (@ps_dpM _ _ _ _ _ _ _ _ _ (@hu_of _ _ hr) (pv 6) (pv 9) pe_bl rfl)) (by intro _ ; rfl)))) (by intro _ ; rfl)) (@pss_cons _ _ _ _ _ (@ps_expr _ _ _ _ (@pe_bm _ _ _ _ _ _ _ _ _ _ _ _ PySem.F.plainAttrs_list PySem.F.slot_list_append PySem.F.type_list_append mt_append (pv 2) (@pa_cons _ _ _ _ _ (@pe_frz _ _ _ (pv 5)) pa_nil (by rfl)) (by rfl) (by rfl) (by rfl) (by rfl) (by rfl)) (by rfl)) (@pss_one _ _ _ (@ps_set _ _ (3) _ _ _ _ sc_levels.nd rfl (by first | exact Or.inl rfl | exact Or.inr rfl) (pv 6) (by rfl) (by first | exact .inl rfl | exact .inr rfl | assumption))))))) (by intro _ ; rfl)) (@pss_one _ _ _ (@ps_ret _ _ _ _ (pv 2))))))), ?_⟩
  rw [show start ["number", "places", "told", "rests", "place", "level", "following", "rest", "digit", "left"] [.int n, .int P0] = [some (.int n), some (.int P0), none, none, none, none, none, none, none, none] from rfl]
  try walk_at "WP"
  intro t nt r0 nr0
  refine ⟨[(.inl n, .bl true)], rfl, by show 1 ≤ 15; decide, by omega, by omega, ?_⟩
  rw [upd_upd, Int.toNat_natCast]
  have s0 := (same_new nt (.lst [])).trans (same_new nr0 (.dK (mergeK [] [((.inl n : Key), V.bl true)])))
  have ht0 : upd (upd H t (.lst [])) r0 (.dK (mergeK [] [((.inl n : Key), V.bl true)])) t = some (.lst []) := (same_new nr0 _) _ _ upd_same
  have hr0 : upd (upd H t (.lst [])) r0 (.dK (mergeK [] [((.inl n : Key), V.bl true)])) r0 = some (.dK [(.inl n, .bl true)]) := upd_same
  generalize upd (upd H t (.lst [])) r0 (.dK (mergeK [] [((.inl n : Key), V.bl true)])) = H0 at s0 ht0 hr0 ⊢
  have fr0 : H r0 = none := (same_new nt _).free nr0
  refine forR (fun i σ H' => ∃ (rd : Addr) (us : List V) (kvr : List (Key × V)) (o4 o5 o6 o7 o8 o9 : Option V), σ = [some (.int n), some (.int (P0 : Int)), some (.ref t), some (.ref rd), o4, o5, o6, o7, o8, o9] ∧ Same H H' ∧ H' t = some (.lst us) ∧ us.length = i ∧ (∀ j v, us[j]? = some v → LvlX t H' P0 n j v) ∧ H rd = none ∧ H' rd = some (.dK kvr) ∧ DV uR kvr (uL (keyL P0 n i)))
    ⟨r0, [], _, _, _, _, _, _, _, rfl, s0, ht0, rfl, fun j v h => by simp at h, fr0, hr0, .cons rfl .nil⟩ ?_ ?_
  · rintro i σ H1 N hi ⟨rd, us, kvr, o4, o5, o6, o7, o8, o9, rfl, s1, ht1, ul, hlv, frd, hrd, dr⟩ hN
    try walk_at "WP"
    intro lv nlv
    refine abs_ nlv fun H2 s2 h2 => ?_
    intro fw nfw
    refine abs_ nfw fun H3 s3 h3 => ?_
    rw [w_forKs, w_frz]
    try walk_at "WP"
    have h2 := s3 _ _ h2
    have s13 := s2.trans s3
    have hrd3 := s13 _ _ hrd
    have ht3 := s13 _ _ ht1
    have flv : H lv = none := s1.free nlv
    have ffw : H fw = none := (s1.trans s2).free nfw
    have rdl : rd ≠ lv := ne_of_none hrd nlv
    have rdf : rd ≠ fw := ne_of_none (s2 _ _ hrd) nfw
    have lvf : lv ≠ fw := ne_of_none (show H2 lv = some (.dK []) from by assumption) nfw
    refine ⟨kvr, hrd3, fun o => ⟨o, kvr, rfl, ?_⟩⟩
    have C4 : Chg rd H3 (upd H3 rd (.frz o (.dK kvr))) := Chg.upd _
    have hrd4 : upd H3 rd (.frz o (.dK kvr)) rd = some (.frz o (.dK kvr)) := upd_same
    have s4 : Same H (upd H3 rd (.frz o (.dK kvr))) := same_upd frd (s1.trans s13)
    generalize upd H3 rd (.frz o (.dK kvr)) = H4 at C4 hrd4 s4 ⊢
    have ht4 := C4 _ _ (ne_of ht3 hrd3 (by intro z; cases z)) ht3
    have hl4 := C4 _ _ rdl.symm h2
    have hf4 := C4 _ _ rdf.symm h3
    have hlv4 : ∀ j v, us[j]? = some v → LvlX t H4 P0 n j v := fun j v hv => ((hlv j v hv).same s13).chgD hrd3 C4
    have hk : (kvr.map fun q => kV q.1) = (keyL P0 n i).map V.int := by rw [dr.keys, uL_keys]
    have kn := keyL_nd P0 n i
    have kl2 := keyL_len P0 n i
    refine forKs hk (fun j σ H' => ∃ (kl kf : List (Key × V)) (o7 o8 o9 : Option V), σ = [some (.int n), some (.int (P0 : Int)), some (.ref t), some (.ref rd), some (.int (0 + (i : Int))), some (.ref lv), some (.ref fw), o7, o8, o9] ∧ Same H H' ∧ H' t = some (.lst us) ∧ (∀ j v, us[j]? = some v → LvlX t H' P0 n j v) ∧ H' rd = some (.frz o (.dK kvr)) ∧ H' lv = some (.dK kl) ∧ DV (stX t H') kl (rowL ((keyL P0 n i).take j) (P0 - i)) ∧ H' fw = some (.dK kf) ∧ DV uR kf (uL (((keyL P0 n i).take j).foldl (nxtK (P0 - i)) [])))
      ⟨_, _, _, _, _, rfl, s4, ht4, hlv4, hrd4, hl4, .nil, hf4, .nil⟩ ?_ ?_ ?_
    · rintro j σ H' _ ⟨_, _, _, _, _, _, _, _, _, h, _⟩
      exact h
    · rintro j x σ H5 N5 hx ⟨kl, kf, o7, o8, o9, rfl, s5, ht5, hlv5, hrd5, hl5, dl5, hf5, df5⟩ hN5
      obtain ⟨r, hr, rfl⟩ := map_at hx
      have rm : r ∈ keyL P0 n i := List.mem_of_getElem? hr
      have ra := keyL_abs rm
      try walk_at "WP"
      refine ⟨r, P0 - i, by rw [show ((P0 : Int) - (0 + (i : Int))) = ((P0 - i : Nat) : Int) by omega], ?_, by omega, fun l us2 H6 nl6 s6 h6 t6 => ?_⟩
      · have e : (2 : Nat) ^ 4000 = 2 ^ 3000 * 2 ^ 1000 := by rw [← Nat.pow_add]
        have p4 : 0 < (2 : Nat) ^ 3000 := Nat.two_pow_pos _
        have p1 : 2 ≤ (2 : Nat) ^ 1000 := Nat.le_trans (by decide) (Nat.pow_le_pow_right (by decide) (by decide : 1 ≤ 1000))
        have := Nat.mul_le_mul_left (2 ^ 3000) p1
        omega
      have lt : l ≠ t := (ne_of_none ht5 nl6).symm
      have hl6 := s6 _ _ hl5
      have kll : kl.length ≤ 2 := by
        rw [dl5.len]
        unfold rowL
        rw [List.length_map, List.length_take]
        omega
      (iterate 5 ((try (walk_at "WP")); (try (simp only [hl6, Option.some.injEq, HO.tup.injEq, HO.lst.injEq, HO.dK.injEq, exists_eq_left', exists_eq_left])))); (try (walk_at "WP"))
      refine ⟨lt_big (by omega), ?_⟩
      have D6 : DV (stX t H6) (putK kl (.inl r) (.ref l)) (rowL ((keyL P0 n i).take (j + 1)) (P0 - i)) := by
        rw [← rowL_snoc kn hr]
        exact (dl5.imp fun _ _ z => z.same s6).put ⟨l, us2, rfl, lt, h6, t6⟩
      have C7 : Chg lv H6 (upd H6 lv (.dK (putK kl (.inl r) (.ref l)))) := Chg.upd _
      have hl7 : upd H6 lv (.dK (putK kl (.inl r) (.ref l))) lv = some (.dK (putK kl (.inl r) (.ref l))) := upd_same
      have s7 : Same H (upd H6 lv (.dK (putK kl (.inl r) (.ref l)))) := same_upd flv (s5.trans s6)
      generalize upd H6 lv (.dK (putK kl (.inl r) (.ref l))) = H7 at C7 hl7 s7 ⊢
      have ht7 := C7 _ _ (ne_of (s6 _ _ ht5) hl6 (by intro z; cases z)) (s6 _ _ ht5)
      have hf7 := C7 _ _ lvf.symm (s6 _ _ hf5)
      have hrd7 := C7 _ _ rdl (s6 _ _ hrd5)
      have h67 := C7 _ _ (ne_of h6 hl6 (by intro z; cases z)) h6
      have t7 := t6.chgO hl6 (by intro ys z; cases z) C7
      have D7 := D6.imp fun _ _ z => z.chgD hl6 C7
      have hlv7 : ∀ j v, us[j]? = some v → LvlX t H7 P0 n j v := fun j v hv => ((hlv5 j v hv).same s6).chgD hl6 C7
      (iterate 5 ((try (walk_at "WP")); (try (simp only [hl7, Option.some.injEq, HO.tup.injEq, HO.lst.injEq, HO.dK.injEq, exists_eq_left', exists_eq_left])))); (try (walk_at "WP"))
      refine ⟨.ref l, by rw [valV_put, if_pos rfl], l, rfl, ⟨_, SqL.of h67⟩, ?_⟩
      refine forL (xs := us2) (fun m σ H' => ∃ (kf : List (Key × V)) (o8 o9 : Option V), σ = [some (.int n), some (.int (P0 : Int)), some (.ref t), some (.ref rd), some (.int (0 + (i : Int))), some (.ref lv), some (.ref fw), some (.int r), o8, o9] ∧ Chg fw H7 H' ∧ H' fw = some (.dK kf) ∧ DV uR kf (uL (((leftsF r (P0 - i)).take m).foldl addK (((keyL P0 n i).take j).foldl (nxtK (P0 - i)) []))))
        ⟨_, _, _, rfl, Chg.refl, hf7, df5⟩ ?_ ?_ ?_
      · rintro m σ H' _ ⟨_, _, _, _, C, _⟩
        exact SqL.of (C _ _ (ne_of h67 hf7 (by intro z; cases z)) h67)
      · rintro m v σ H8 N8 hv ⟨kf8, o8, o9, rfl, C8, hf8, df8⟩ hN8
        have hm : m < (stepsF r (P0 - i)).length := by rw [← t7.len]; exact (List.getElem?_eq_some_iff.mp hv).1
        have es := List.getElem?_eq_getElem hm
        have sm := List.getElem_mem hm
        generalize (stepsF r (P0 - i))[m] = st at es sm
        obtain ⟨tp, e1, e2⟩ := t7.at_ m st es
        rw [hv] at e1
        cases e1
        have e8 := C8 _ _ (ne_of e2 hf7 (by intro z; cases z)) e2
        unfold stT at e8
        (iterate 5 ((try (walk_at "WP")); (try (simp only [e8, hf8, Option.some.injEq, HO.tup.injEq, HO.lst.injEq, HO.dK.injEq, exists_eq_left', exists_eq_left])))); (try (walk_at "WP"))
        have el : (leftsF r (P0 - i))[m]? = some st.2 := by unfold leftsF; rw [List.getElem?_map, es]; rfl
        have nd8 : (((leftsF r (P0 - i)).take m).foldl addK (((keyL P0 n i).take j).foldl (nxtK (P0 - i)) [])).Nodup := addKs_nd (nxts_nd List.nodup_nil)
        have ml : kf8.length ≤ 2 := by
          rw [df8.len, uL_len]
          refine part_len (P := P0) (n := n) (i := i + 1) nd8 fun y hy => ?_
          rcases mem_addKs.mp hy with z | z
          · rcases mem_nxts.mp z with z | ⟨r', hr', hy'⟩
            · cases z
            · obtain ⟨s', hs', rfl⟩ := List.mem_map.mp hy'
              exact keyL_next (List.mem_of_mem_take hr') hs'
          · obtain ⟨s', hs', rfl⟩ := List.mem_map.mp (List.mem_of_mem_take z)
            exact keyL_next rm hs'
        refine ⟨lt_big (by omega), hN8 _ _ ⟨_, _, _, rfl, C8.trans (Chg.upd _), upd_same, ?_⟩⟩
        rw [List.take_succ, el, Option.toList_some, List.foldl_append]
        show DV uR _ (uL (addK _ st.2))
        rw [← uL_put]
        exact df8.put rfl
      · rintro σ H8 ⟨kf8, o8, o9, rfl, C8, hf8, df8⟩
        rw [t7.len, List.take_of_length_le (l := leftsF r (P0 - i)) (by unfold leftsF; rw [List.length_map]; exact Nat.le_refl _)] at df8
        have sH8 : Same H H8 := fun b o e => C8 b o (ne_of_none e ffw) (s7 b o e)
        refine hN5 _ _ ⟨_, _, _, _, _, rfl, sH8, C8 _ _ (ne_of ht7 hf7 (by intro z; cases z)) ht7, fun j v hv => (hlv7 j v hv).chgD hf7 C8, C8 _ _ rdf hrd7, C8 _ _ lvf hl7, D7.imp fun _ _ z => z.chgD hf7 C8, hf8, ?_⟩
        rw [List.take_succ, hr, Option.toList_some, List.foldl_append]
        exact df8
    · rintro σ H5 ⟨kl, kf, o7, o8, o9, rfl, s5, ht5, hlv5, hrd5, hl5, dl5, hf5, df5⟩
      rw [List.length_map, List.take_length] at dl5 df5
      try walk_at "WP"
      rw [w_frz]
      try walk_at "WP"
      refine ⟨ty_list ht5, kl, hl5, fun o' => ⟨us, ?_, Nat.lt_of_lt_of_le (by omega : us.length < 100000) (by decide), ?_⟩⟩
      · rw [upd_ne (ne_of ht5 hl5 (by intro z; cases z))]
        exact ht5
      have C6 : Chg lv H5 (upd H5 lv (.frz o' (.dK kl))) := Chg.upd _
      have hl6 : upd H5 lv (.frz o' (.dK kl)) lv = some (.frz o' (.dK kl)) := upd_same
      have s6 : Same H (upd H5 lv (.frz o' (.dK kl))) := same_upd flv s5
      generalize upd H5 lv (.frz o' (.dK kl)) = H6 at C6 hl6 s6 ⊢
      have ht6 := C6 _ _ (ne_of ht5 hl5 (by intro z; cases z)) ht5
      have hf6 := C6 _ _ lvf.symm hf5
      have D6 := dl5.imp fun _ _ z => z.chgD hl5 C6
      have hlv6 : ∀ j v, us[j]? = some v → LvlX t H6 P0 n j v := fun j v hv => (hlv5 j v hv).chgD hl5 C6
      have C7 : Chg t H6 (upd H6 t (.lst (us ++ [V.ref lv]))) := Chg.upd _
      have ht7 : upd H6 t (.lst (us ++ [V.ref lv])) t = some (.lst (us ++ [V.ref lv])) := upd_same
      have s7 : Same H (upd H6 t (.lst (us ++ [V.ref lv]))) := same_upd nt s6
      generalize upd H6 t (.lst (us ++ [V.ref lv])) = H7 at C7 ht7 s7 ⊢
      refine hN _ _ ⟨fw, us ++ [V.ref lv], kf, _, _, _, _, _, _, rfl, s7, ht7, by rw [List.length_append, ul]; rfl, fun j v hv => ?_, ffw, C7 _ _ (ne_of hf6 ht6 (by intro z; cases z)) hf6, df5⟩
      rcases Nat.lt_or_ge j us.length with z | z
      · rw [List.getElem?_append_left z] at hv
        exact (hlv6 j v hv).chg ht6 C7
      · have ej : j = us.length := by
          have := (List.getElem?_eq_some_iff.mp hv).1
          rw [List.length_append, List.length_singleton] at this
          omega
        rw [ej, snoc_at] at hv
        cases hv
        rw [ej, ul]
        exact ⟨lv, o', kl, rfl, C7 _ _ (ne_of hl6 ht6 (by intro z; cases z)) hl6, D6.imp fun _ _ z => z.chg ht6 C7⟩
  · rintro σ H1 ⟨rd, us, kvr, o4, o5, o6, o7, o8, o9, rfl, s1, ht1, ul, hlv, frd, hrd, dr⟩
    try walk_at "WP"
    exact q t us H1 nt s1 ht1 ul fun j v hv => by
      obtain ⟨d, o, kvs, e, h1, h2⟩ := hlv j v hv
      exact ⟨d, o, kvs, e, h1, h2.imp fun _ _ z => z.st⟩
end

section
variable {P : Program} {w : World} {K : PySem.W.Frag} {mg : Str → Option Value} {base : Heap}
theorem ok_ahead (T : Txt K mg) : Cal P w K mg base 1 "counts_ahead" ["level", "counts"] spAhead := by
  have B := T.bl
  refine mkCal T.t_counts_ahead sc_counts_ahead (fun vs H Q E h => ?_) (fun f cdv A outer s H vs Q E hr h => ?_)
  · obtain ⟨_, _, _, _, _, _, _, _, rfl, _⟩ := h
    rfl
  obtain ⟨d, c, o, kvs, kvc, ks, t, rows, rfl, hd, dv, kn, kl, hc, dc, hg, q⟩ := h
  refine ⟨_, ((@pss_cons _ _ _ _ _ (@ps_set _ _ (2) _ _ _ _ sc_counts_ahead.nd rfl (by first | exact Or.inl rfl | exact Or.inr rfl) pe_dnewK (by rfl) (by first | exact .inl rfl | exact .inr rfl | assumption)) (@pss_cons _ _ _ _ _ (@ps_for _ _ _ _ _ _ _ _ PassesOwn.never rfl (@pi_dict _ _ _ _ (pv 0)) (@pg_name _ _ (3) _ sc_counts_ahead.nd rfl (by first | exact Or.inl rfl | exact Or.inr rfl) (by first | exact .inl rfl | exact .inr rfl | assumption)) (@pss_one _ _ _ (@ps_dpM _ _ _ _ _ _ _ _ _ (@hu_of _ _ hr) (pv 2) (pv 3) (@pe_callB _ _ _ _ _ _ _ _ _ (@call_sum _ rfl) rfl B.sum bo_sum (@pa_cons _ _ _ _ _ (@pe_compC _ _ _ _ _ _ _ _ (["digit", "left", "counts"]) (2) ([1]) _ _ _ rfl (@pi_list _ _ _ _ (@pe_dgF _ _ _ _ _ _ (@hu_of _ _ hr) (pv 0) (pv 3) (fun _ _ => rfl))) (fun nd C s H fp => ⟨(@pg_tupM _ _ _ _ _ 2 rfl (@pgs_cons _ _ _ _ _ (@pg_name _ _ (0) _ nd rfl (by first | exact Or.inl rfl | exact Or.inr rfl) (by first | exact .inl rfl | exact .inr rfl | assumption)) (@pgs_cons _ _ _ _ _ (@pg_name _ _ (1) _ nd rfl (by first | exact Or.inl rfl | exact Or.inr rfl) (by first | exact .inl rfl | exact .inr rfl | assumption)) pgs_nil (by rfl)) (by rfl)) (by rfl) (by rfl)), pn_nil, (@pe_dget2 _ _ _ _ _ _ _ _ _ (@hu_of _ _ hr) (pv 2) (pv 1) pe_int ⟨rfl, rfl, rfl, rfl⟩)⟩) (by decide +kernel) (by first | rfl | decide +kernel) (by first | rfl | decide +kernel) rfl (fun _ => rfl)) pa_nil (by rfl)) (by decide) (by decide) (by rfl) (by rfl)) rfl)) (by intro _ ; rfl)) (@pss_one _ _ _ (@ps_ret _ _ _ _ (pv 2)))))), ?_⟩
  rw [show start ["level", "counts", "ahead", "rest"] [.ref d, .ref c] = [some (.ref d), some (.ref c), none, none] from rfl]
  try walk_at "WP"
  intro p np
  refine abs_ np fun H1 s1 h1 => ?_
  rw [w_forKs]
  try walk_at "WP"
  refine ⟨o, kvs, s1 _ _ hd, ?_⟩
  have hk : (kvs.map fun q => kV q.1) = ks.map V.int := by rw [dv.keys, rowL_keys]
  refine forKs hk (fun j σ H' => ∃ (ka : List (Key × V)) (o3 : Option V), σ = [some (.ref d), some (.ref c), some (.ref p), o3] ∧ Same H H' ∧ H' p = some (.dK ka) ∧ DV cR ka ((ks.take j).map fun r => (r, hmW (t + 1) r)))
    ⟨_, _, rfl, s1, h1, .nil⟩ ?_ ?_ ?_
  · rintro j σ H' _ ⟨_, _, _, s', _⟩
    exact s' _ _ hd
  · rintro j x σ H2 N hx ⟨ka, o3, rfl, s2, h2, d2⟩ hN
    obtain ⟨r, hr, rfl⟩ := map_at hx
    have rm : r ∈ ks := List.mem_of_getElem? hr
    obtain ⟨v, hv, l, us, rfl, hl, hts⟩ := (dv.val r).2 _ (lk_rowL rm kn)
    try walk_at "WP"
    rw [w_dgF]
    refine ⟨kvs, .inr ⟨o, s2 _ _ hd⟩, _, hv, l, rfl, ⟨_, SqL.of (s2 _ _ hl)⟩, ?_⟩
    have ts2 := hts.same s2
    have ss2 := steps_len r (t + 1)
    have tl := hts.len
    refine comp_pairs (xs := (stepsF r (t + 1)).map (·.1)) (ys := (stepsF r (t + 1)).map (·.2)) (s2 _ _ hl) (by rw [List.length_map]; exact tl) (by rw [List.length_map, List.length_map]) (by rw [List.length_map]; omega) (fun k x y e1 e2 => ?_) (fun _ y => (lk rows y).getD 0) (fun x y H' R s' hR => ?_) (fun acc H' na s' ha => ?_)
    · rw [List.getElem?_map] at e1 e2
      cases es : (stepsF r (t + 1))[k]? with
      | none => rw [es] at e1; cases e1
      | some st =>
        rw [es] at e1 e2
        cases e1
        cases e2
        exact ts2.at_ k st es
    · rw [show capV [1] [some (V.ref d), some (V.ref c), some (V.ref p), some (V.int r)] = [some (V.ref c)] from rfl, List.cons_append, List.cons_append, List.nil_append, w_dget2]
      try walk_at "WP"
      have hc' := (s2.trans s') _ _ hc
      obtain ⟨g1, g2⟩ := get_of (c := y) (.inl hc')
      refine ⟨g1, _, g2, ?_⟩
      cases e : lk rows y with
      | none =>
        rw [(dc.val y).1 e]
        rw [e] at hR
        exact hR
      | some z =>
        obtain ⟨u, hu, ru⟩ := (dc.val y).2 z e
        rw [hu]
        rw [e] at hR
        cases ru
        exact hR
    · have ez : List.zipWith (fun _ y => (lk rows y).getD 0) ((stepsF r (t + 1)).map (·.1)) ((stepsF r (t + 1)).map (·.2)) = (stepsF r (t + 1)).map fun s => hmW t s.2 := by
        rw [List.zipWith_map]
        have : ∀ ss : List (Int × Int), (∀ s ∈ ss, (lk rows s.2).getD 0 = hmW t s.2) → List.zipWith (fun (a : Int × Int) (b : Int × Int) => (lk rows b.2).getD 0) ss ss = ss.map fun s => hmW t s.2 := fun ss => by
          induction ss with
          | nil => intro _; rfl
          | cons a r ih =>
            intro h
            rw [List.zipWith_cons_cons, List.map_cons, ih fun s hs => h s (List.mem_cons_of_mem _ hs), h a List.mem_cons_self]
        exact this _ fun s hs => hg r rm s hs
      rw [ez] at ha
      try walk_at "WP"
      refine ⟨acc, _, rfl, ha, ?_⟩
      rw [← hm_steps]
      have lk2 : ka.length ≤ 2 := by rw [d2.len, List.length_map, List.length_take]; omega
      refine ⟨ka, s' _ _ h2, lt_big (by omega), hN _ _ ⟨_, _, rfl, same_upd np (s2.trans s'), upd_same, ?_⟩⟩
      rw [← mapK_snoc (f := hmW (t + 1)) kn hr]
      exact d2.put rfl
  · rintro σ H2 ⟨ka, o3, rfl, s2, h2, d2⟩
    rw [List.length_map, List.take_length] at d2
    try walk_at "WP"
    exact q p ka _ np s2 h2 d2
theorem ok_how (T : Txt K mg) : Cal P w K mg base 6 "how_many" ["number", "places"] spHow := by
  have B := T.bl
  have C_levels := ok_levels (P := P) (w := w) (base := base) T
  have C_counts_ahead := (ok_ahead (P := P) (w := w) (base := base) T).mono (k := 5) (by decide)
  refine mkCal T.t_how_many sc_how_many (fun vs H Q E h => ?_) (fun f cdv A outer s H vs Q E hr h => ?_)
  · obtain ⟨n, p, rfl, _⟩ := h
    rfl
  obtain ⟨n, P0, rfl, hb, hp, q⟩ := h
  refine ⟨_, ((@pss_cons _ _ _ _ _ (@ps_set _ _ (2) _ _ _ _ sc_how_many.nd rfl (by first | exact Or.inl rfl | exact Or.inr rfl) (@pe_disp _ _ _ _ _ (@pps_cons _ _ _ _ _ _ _ _ _ pe_int pe_int pps_nil) rfl rfl (by simp) (by decide)) (by rfl) (by first | exact .inl rfl | exact .inr rfl | assumption)) (@pss_cons _ _ _ _ _ (@ps_for _ _ _ _ _ _ _ _ PassesOwn.never rfl (@pi_rev _ _ _ _ _ _ rfl B.reversed (@pa_cons _ _ _ _ _ (@pe_cal _ _ _ _ _ _ _ _ _ _ C_levels hr rfl (@pa_cons _ _ _ _ _ (pv 0) (@pa_cons _ _ _ _ _ (pv 1) pa_nil (by rfl)) (by rfl)) (by decide) (by rfl) (by rfl)) pa_nil (by rfl)) (by rfl)) (@pg_name _ _ (3) _ sc_how_many.nd rfl (by first | exact Or.inl rfl | exact Or.inr rfl) (by first | exact .inl rfl | exact .inr rfl | assumption)) (@pss_one _ _ _ (@ps_set _ _ (2) _ _ _ _ sc_how_many.nd rfl (by first | exact Or.inl rfl | exact Or.inr rfl) (@pe_cal _ _ _ _ _ _ _ _ _ _ C_counts_ahead hr rfl (@pa_cons _ _ _ _ _ (pv 3) (@pa_cons _ _ _ _ _ (pv 2) pa_nil (by rfl)) (by rfl)) (by decide) (by rfl) (by rfl)) (by rfl) (by first | exact .inl rfl | exact .inr rfl | assumption))) (by intro _ ; rfl)) (@pss_one _ _ _ (@ps_ret _ _ _ _ (@pe_dget2 _ _ _ _ _ _ _ _ _ (@hu_of _ _ hr) (pv 2) (pv 0) pe_int ⟨rfl, rfl, rfl, rfl⟩)))))), ?_⟩
  rw [show start ["number", "places", "counts", "level"] [.int n, .int P0] = [some (.int n), some (.int P0), none, none] from rfl]
  try walk_at "WP"
  intro c0 nc0
  refine ⟨[(.inl 0, .int 1)], rfl, by show 1 ≤ 15; decide, ?_⟩
  rw [upd_upd]
  have hc0 : upd H c0 (.dK (mergeK [] [((.inl 0 : Key), V.int 1)])) c0 = some (.dK [(.inl 0, .int 1)]) := upd_same
  have s0 := same_new nc0 (.dK (mergeK [] [((.inl 0 : Key), V.int 1)]))
  generalize upd H c0 (.dK (mergeK [] [((.inl 0 : Key), V.int 1)])) = H0 at s0 hc0 ⊢
  refine ⟨n, P0, rfl, hb, hp, fun l us H1 nl s1 h1 ul hlv => ?_⟩
  refine ⟨l, rfl, us, SqL.of h1, ?_⟩
  refine forV (xs := us) (fun t σ H' => ∃ (c : Addr) (kv : List (Key × V)) (rows : List (Int × Int)) (o3 : Option V), σ = [some (.int n), some (.int (P0 : Int)), some (.ref c), o3] ∧ Same H1 H' ∧ H' c = some (.dK kv) ∧ DV cR kv rows ∧ ∀ x, (t = 0 ∨ x ∈ keyL P0 n (P0 - t)) → (lk rows x).getD 0 = hmW t x)
    ⟨c0, _, [(0, 1)], _, rfl, Same.refl _, s1 _ _ hc0, .cons rfl .nil, fun x _ => ?_⟩ ?_ ?_ ?_
  · rw [hm_0, lk_cons]
    by_cases z : x = 0
    · rw [if_pos z.symm, if_pos z]; rfl
    · rw [if_neg (fun y => z y.symm), if_neg z]; rfl
  · rintro t σ H' _ ⟨_, _, _, _, _, s', _⟩
    exact SqL.of (s' _ _ h1)
  · rintro t v σ H2 N hv ⟨c, kv, rows, o3, rfl, s2, hc, dc, hok⟩ hN
    have ht : t < us.length := by
      have := (List.getElem?_eq_some_iff.mp hv).1
      rwa [List.length_reverse] at this
    rw [List.getElem?_reverse ht] at hv
    obtain ⟨d, o, kvs, rfl, hd, dv⟩ := hlv _ _ hv
    have e1 : P0 - (us.length - 1 - t) = t + 1 := by omega
    rw [e1] at dv
    try walk_at "WP"
    refine ⟨d, c, o, kvs, kv, _, t, rows, rfl, s2 _ _ hd, dv.imp fun _ _ z => z.same s2, keyL_nd _ _ _, keyL_len _ _ _, hc, dc, fun r hr s hs => hok _ (.inr ?_), fun c' kv' H3 nc' s3 hc' dc' => ?_⟩
    · have := keyL_next hr (s := s) (by rw [e1]; exact hs)
      rwa [show us.length - 1 - t + 1 = P0 - t by omega] at this
    · refine hN _ _ ⟨c', kv', _, _, rfl, s2.trans s3, hc', dc', fun x hx => ?_⟩
      rcases hx with z | z
      · omega
      · rw [show P0 - (t + 1) = us.length - 1 - t by omega] at z
        exact cnt_map z (keyL_nd _ _ _)
  · rintro σ H2 ⟨c, kv, rows, o3, rfl, s2, hc, dc, hok⟩
    try walk_at "WP"
    rw [w_dget2]
    try walk_at "WP"
    obtain ⟨g1, g2⟩ := get_of (c := n) (.inl hc)
    refine ⟨g1, _, g2, ?_⟩
    have hn := hok n (.inr (by rw [ul, Nat.sub_self]; exact List.mem_singleton.mpr rfl))
    rw [ul] at hn
    have sH := (s0.trans s1).trans s2
    cases e : lk rows n with
    | none =>
      rw [(dc.val n).1 e]
      rw [e] at hn
      show Q (.int 0) H2
      rw [show (0 : Int) = hmW P0 n from hn]
      exact q _ sH
    | some z =>
      obtain ⟨u, hu, ru⟩ := (dc.val n).2 z e
      rw [hu]
      rw [e] at hn
      cases ru
      show Q (.int z) H2
      rw [show z = hmW P0 n from hn]
      exact q _ sH
end

section
variable {P : Program} {w : World} {K : PySem.W.Frag} {mg : Str → Option Value} {base : Heap}
theorem ok_lcount (T : Txt K mg) : Cal P w K mg base 4 "_law_count" ["_law_number", "_law_places"] spLCount := by
  have B := T.bl
  have C_l_least := ok_lleast (P := P) (w := w) (base := base) T
  refine mkCal T.t_l_count sc_l_count (fun vs H Q E h => ?_) (fun f cdv A outer s H vs Q E hr h => ?_)
  · obtain ⟨n, p, rfl, _⟩ := h
    rfl
  obtain ⟨n, P0, rfl, hb, hp, q⟩ := h
  refine ⟨_, ((@pss_cons _ _ _ _ _ (@ps_set _ _ (2) _ _ _ _ sc_l_count.nd rfl (by first | exact Or.inl rfl | exact Or.inr rfl) (@pe_disp _ _ _ _ _ (@pps_cons _ _ _ _ _ _ _ _ _ pe_int (@pe_tup _ _ _ _ _ (@pa_cons _ _ _ _ _ pe_int (@pa_cons _ _ _ _ _ pe_int pa_nil (by rfl)) (by rfl))) pps_nil) rfl rfl (by simp) (by decide)) (by rfl) (by first | exact .inl rfl | exact .inr rfl | assumption)) (@pss_mid _ _ _ _ _ (@ps_for _ _ _ _ _ _ _ _ PassesOwn.never rfl (@pi_range1 _ _ _ _ _ _ rfl B.range (@pa_cons _ _ _ _ _ (pv 1) pa_nil (by rfl)) (by rfl)) (@pg_name _ _ (3) _ sc_l_count.nd rfl (by first | exact Or.inl rfl | exact Or.inr rfl) (by first | exact .inl rfl | exact .inr rfl | assumption)) (@pss_cons _ _ _ _ _ (@ps_set _ _ (4) _ _ _ _ sc_l_count.nd rfl (by first | exact Or.inl rfl | exact Or.inr rfl) pe_dnewK (by rfl) (by first | exact .inl rfl | exact .inr rfl | assumption)) (@pss_cons _ _ _ _ _ (@ps_for _ _ _ _ _ _ _ _ PassesOwn.never rfl (@pi_dict _ _ _ _ (@pe_frz _ _ _ (pv 2))) (@pg_name _ _ (5) _ sc_l_count.nd rfl (by first | exact Or.inl rfl | exact Or.inr rfl) (by first | exact .inl rfl | exact .inr rfl | assumption)) (@pss_cons _ _ _ _ _ (@ps_asg _ _ _ _ _ _ (@pe_dgF _ _ _ _ _ _ (@hu_of _ _ hr) (pv 2) (pv 5) (fun _ _ => rfl)) (@pg_tupM _ _ _ _ _ 2 rfl (@pgs_cons _ _ _ _ _ (@pg_name _ _ (6) _ sc_l_count.nd rfl (by first | exact Or.inl rfl | exact Or.inr rfl) (by first | exact .inl rfl | exact .inr rfl | assumption)) (@pgs_cons _ _ _ _ _ (@pg_name _ _ (7) _ sc_l_count.nd rfl (by first | exact Or.inl rfl | exact Or.inr rfl) (by first | exact .inl rfl | exact .inr rfl | assumption)) pgs_nil (by rfl)) (by rfl)) (by rfl) (by rfl)) (by rfl) (by rfl) (by rfl)) (@pss_cons _ _ _ _ _ (@ps_set _ _ (8) _ _ _ _ sc_l_count.nd rfl (by first | exact Or.inl rfl | exact Or.inr rfl) (@pe_op _ _ _ _ _ _ _ _ op_add (@pe_op _ _ _ _ _ _ _ _ op_and (@pe_op _ _ _ _ _ _ _ _ op_shr (pv 0) (pv 3)) pe_int) (pv 5)) (by rfl) (by first | exact .inl rfl | exact .inr rfl | assumption)) (@pss_one _ _ _ (@ps_for _ _ _ _ _ _ _ _ PassesOwn.never rfl (@pi_list _ _ _ _ (@pe_ix _ _ _ _ _ _ _ ix_M (@pe_lst _ _ _ _ (@pa_cons _ _ _ _ _ (@pe_lst _ _ _ _ (@pa_cons _ _ _ _ _ pe_int pa_nil (by rfl))) (@pa_cons _ _ _ _ _ (@pe_lst _ _ _ _ (@pa_cons _ _ _ _ _ (@pe_un _ _ _ _ _ _ un_neg pe_int) (@pa_cons _ _ _ _ _ pe_int pa_nil (by rfl)) (by rfl))) pa_nil (by rfl)) (by rfl))) (@pe_op _ _ _ _ _ _ _ _ op_mod (pv 8) pe_int) (fun _ _ => rfl))) (@pg_name _ _ (9) _ sc_l_count.nd rfl (by first | exact Or.inl rfl | exact Or.inr rfl) (by first | exact .inl rfl | exact .inr rfl | assumption)) (@pss_cons _ _ _ _ _ (@ps_set _ _ (10) _ _ _ _ sc_l_count.nd rfl (by first | exact Or.inl rfl | exact Or.inr rfl) (@pe_op _ _ _ _ _ _ _ _ op_fdivB (@pe_op _ _ _ _ _ _ _ _ op_sub (pv 8) (pv 9)) pe_int) (by rfl) (by first | exact .inl rfl | exact .inr rfl | assumption)) (@pss_cons _ _ _ _ _ (@ps_set _ _ (11) _ _ _ _ sc_l_count.nd rfl (by first | exact Or.inl rfl | exact Or.inr rfl) (@pe_dget2 _ _ _ _ _ _ _ _ _ (@hu_of _ _ hr) (pv 4) (pv 10) (@pe_tup _ _ _ _ _ (@pa_cons _ _ _ _ _ (@pe_op _ _ _ _ _ _ _ _ op_add (pv 6) (@pe_callB _ _ _ _ _ _ _ _ _ call_abs rfl B.abs bo_abs (@pa_cons _ _ _ _ _ (pv 9) pa_nil (by rfl)) (by decide) (by decide) (by rfl) (by rfl))) (@pa_cons _ _ _ _ _ pe_int pa_nil (by rfl)) (by rfl))) ⟨rfl, rfl, rfl, rfl⟩) (by rfl) (by first | exact .inl rfl | exact .inr rfl | assumption)) (@pss_one _ _ _ (@ps_if _ _ _ _ _ _ _ _ (@pt_cmpR _ _ _ _ _ _ _ _ op_lt (@pe_op _ _ _ _ _ _ _ _ op_add (pv 6) (@pe_callB _ _ _ _ _ _ _ _ _ call_abs rfl B.abs bo_abs (@pa_cons _ _ _ _ _ (pv 9) pa_nil (by rfl)) (by decide) (by decide) (by rfl) (by rfl))) (@pe_ix _ _ _ _ _ _ _ ix_U (pv 11) pe_int (fun _ _ => rfl)) (@nomark _ _ (by decide) (by decide))) (@pss_one _ _ _ (@ps_dpM _ _ _ _ _ _ _ _ _ (@hu_of _ _ hr) (pv 4) (pv 10) (@pe_tup _ _ _ _ _ (@pa_cons _ _ _ _ _ (@pe_op _ _ _ _ _ _ _ _ op_add (pv 6) (@pe_callB _ _ _ _ _ _ _ _ _ call_abs rfl B.abs bo_abs (@pa_cons _ _ _ _ _ (pv 9) pa_nil (by rfl)) (by decide) (by decide) (by rfl) (by rfl))) (@pa_cons _ _ _ _ _ (pv 7) pa_nil (by rfl)) (by rfl))) rfl)) (@pss_one _ _ _ (@ps_if _ _ _ _ _ _ _ _ (@pt_cmpR _ _ _ _ _ _ _ _ op_eq (@pe_op _ _ _ _ _ _ _ _ op_add (pv 6) (@pe_callB _ _ _ _ _ _ _ _ _ call_abs rfl B.abs bo_abs (@pa_cons _ _ _ _ _ (pv 9) pa_nil (by rfl)) (by decide) (by decide) (by rfl) (by rfl))) (@pe_ix _ _ _ _ _ _ _ ix_U (pv 11) pe_int (fun _ _ => rfl)) (@nomark _ _ (by decide) (by decide))) (@pss_one _ _ _ (@ps_dpM _ _ _ _ _ _ _ _ _ (@hu_of _ _ hr) (pv 4) (pv 10) (@pe_tup _ _ _ _ _ (@pa_cons _ _ _ _ _ (@pe_ix _ _ _ _ _ _ _ ix_U (pv 11) pe_int (fun _ _ => rfl)) (@pa_cons _ _ _ _ _ (@pe_op _ _ _ _ _ _ _ _ op_add (@pe_ix _ _ _ _ _ _ _ ix_U (pv 11) pe_int (fun _ _ => rfl)) (pv 7)) pa_nil (by rfl)) (by rfl))) rfl)) (@pss_one _ _ _ (@ps_dpM _ _ _ _ _ _ _ _ _ (@hu_of _ _ hr) (pv 4) (pv 10) (pv 11) rfl)))))))) (by intro _ ; rfl))))) (by intro _ ; rfl)) (@pss_one _ _ _ (@ps_set _ _ (2) _ _ _ _ sc_l_count.nd rfl (by first | exact Or.inl rfl | exact Or.inr rfl) (pv 4) (by rfl) (by first | exact .inl rfl | exact .inr rfl | assumption))))) (by intro _ ; rfl)) (@pss_cons _ _ _ _ _ (@ps_for _ _ _ _ _ _ _ _ PassesOwn.never rfl (@pi_dict _ _ _ _ (@pe_frz _ _ _ (pv 2))) (@pg_name _ _ (5) _ sc_l_count.nd rfl (by first | exact Or.inl rfl | exact Or.inr rfl) (by first | exact .inl rfl | exact .inr rfl | assumption)) (@pss_one _ _ _ (@ps_if _ _ _ _ _ _ _ _ (@PW.pt _ _ _ (@pw_and _ _ _ _ _ _ _ (@pt_cmpR _ _ _ _ _ _ _ _ op_eq (@pe_op _ _ _ _ _ _ _ _ op_add (@pe_op _ _ _ _ _ _ _ _ op_shr (pv 0) (pv 1)) (pv 5)) pe_int (@nomark _ _ (by decide) (by decide))) (@pw_and1 _ _ _ _ (@pt_cmpR _ _ _ _ _ _ _ _ op_eq (@pe_ix _ _ _ _ _ _ _ ix_U (@pe_dgF _ _ _ _ _ _ (@hu_of _ _ hr) (pv 2) (pv 5) (fun _ _ => rfl)) pe_int (fun _ _ => rfl)) (@pe_cal _ _ _ _ _ _ _ _ _ _ C_l_least hr rfl (@pa_cons _ _ _ _ _ (pv 0) pa_nil (by rfl)) (by decide) (by rfl) (by rfl)) (@nomark _ _ (by decide) (by decide)))))) (@pss_one _ _ _ (@ps_ret _ _ _ _ (@pe_ix _ _ _ _ _ _ _ ix_U (@pe_dgF _ _ _ _ _ _ (@hu_of _ _ hr) (pv 2) (pv 5) (fun _ _ => rfl)) pe_int (fun _ _ => rfl)))) pss_nil)) (by intro _ ; rfl)) (@pss_one _ _ _ (@ps_ret _ _ _ _ pe_int)))))), ?_⟩
  rw [show start ["_law_number", "_law_places", "_law_rows", "_law_place", "_law_fresh", "_law_carry", "_law_weight", "_law_told", "_law_low", "_law_digit", "_law_to", "_law_old"] [.int n, .int P0] = [some (.int n), some (.int P0), none, none, none, none, none, none, none, none, none, none] from rfl]
  try walk_at "WP"
  intro d0 nd0 t0 nt0
  have td0 : t0 ≠ d0 := (ne_of_none (show upd H d0 (.dK []) d0 = some (.dK []) from upd_same) nt0).symm
  refine ⟨by rw [upd_ne td0.symm]; exact upd_same, [(.inl 0, .ref t0)], rfl, by show 1 ≤ 15; decide, ?_⟩
  have s0 : Same H (upd (upd (upd H d0 (.dK [])) t0 (.tup [V.int 0, V.int 1])) d0 (.dK (mergeK [] [((.inl 0 : Key), V.ref t0)]))) := same_upd nd0 ((same_new nd0 _).trans (same_new nt0 _))
  have hd0 : (upd (upd (upd H d0 (.dK [])) t0 (.tup [V.int 0, V.int 1])) d0 (.dK (mergeK [] [((.inl 0 : Key), V.ref t0)]))) d0 = some (.dK [(.inl 0, .ref t0)]) := upd_same
  have ht0 : (upd (upd (upd H d0 (.dK [])) t0 (.tup [V.int 0, V.int 1])) d0 (.dK (mergeK [] [((.inl 0 : Key), V.ref t0)]))) t0 = some (.tup [V.int 0, V.int 1]) := by rw [upd_ne td0]; exact upd_same
  generalize (upd (upd (upd H d0 (.dK [])) t0 (.tup [V.int 0, V.int 1])) d0 (.dK (mergeK [] [((.inl 0 : Key), V.ref t0)]))) = H0 at s0 hd0 ht0 ⊢
  refine mid_of (fun σ H' => ∃ (rd : Addr) (kv : List (Key × V)) (o3 o4 o5 o6 o7 o8 o9 o10 o11 : Option V), σ = [some (.int n), some (.int (P0 : Int)), some (.ref rd), o3, o4, o5, o6, o7, o8, o9, o10, o11] ∧ Same H H' ∧ H rd = none ∧ H' rd = some (.dK kv) ∧ DV (tR H') kv (rowsR n P0)) (fun N0 hN0 => ?_) ?_
  · try walk_at "WP"
    refine ⟨by omega, by omega, ?_⟩
    rw [Int.toNat_natCast]
    refine forR (fun i σ H' => ∃ (rd : Addr) (kv : List (Key × V)) (o3 o4 o5 o6 o7 o8 o9 o10 o11 : Option V), σ = [some (.int n), some (.int (P0 : Int)), some (.ref rd), o3, o4, o5, o6, o7, o8, o9, o10, o11] ∧ Same H H' ∧ H rd = none ∧ H' rd = some (.dK kv) ∧ DV (tR H') kv (rowsR n i))
      ⟨d0, _, _, _, _, _, _, _, _, _, _, rfl, s0, nd0, hd0, .cons ⟨t0, rfl, ht0⟩ .nil⟩ ?_ ?_
    · rintro i σ H1 N hi ⟨rd, kv, o3, o4, o5, o6, o7, o8, o9, o10, o11, rfl, s1, frd, hrd, dv⟩ hN
      obtain ⟨gr, -⟩ := rows_all P0 n i (by omega)
      obtain ⟨bit01, hbit⟩ : (n / 2 ^ i % 2 = 0 ∨ n / 2 ^ i % 2 = 1) ∧ n / 2 ^ i = 2 * (n / 2 ^ (i + 1)) + n / 2 ^ i % 2 := ⟨by omega, halfPow n i⟩
      have hN' : ∀ σ' H', (∃ (rd : Addr) (kv : List (Key × V)) (o3 o4 o5 o6 o7 o8 o9 o10 o11 : Option V), σ' = [some (.int n), some (.int (P0 : Int)), some (.ref rd), o3, o4, o5, o6, o7, o8, o9, o10, o11] ∧ Same H H' ∧ H rd = none ∧ H' rd = some (.dK kv) ∧ DV (tR H') kv ((rowsR n i).foldl (carR (n / 2 ^ i % 2)) [])) → N σ' H' := hN
      have eq : P0 - i = (P0 - (i + 1)) + 1 := by omega
      have gr2 := gr
      rw [hbit, eq] at gr2
      generalize hbb : n / 2 ^ i % 2 = bit at *
      generalize n / 2 ^ (i + 1) = b' at gr2
      try walk_at "WP"
      intro fr nfr
      refine abs_ nfr fun H2 s2 h2 => ?_
      rw [w_forKs, w_frz]
      try walk_at "WP"
      refine ⟨kv, s2 _ _ hrd, fun o => ⟨o, kv, rfl, ?_⟩⟩
      have ffr : H fr = none := s1.free nfr
      have rf : rd ≠ fr := ne_of_none hrd nfr
      have C3 : Chg rd H2 (upd H2 rd (.frz o (.dK kv))) := Chg.upd _
      have hrd3 : upd H2 rd (.frz o (.dK kv)) rd = some (.frz o (.dK kv)) := upd_same
      have s3 : Same H (upd H2 rd (.frz o (.dK kv))) := same_upd frd (s1.trans s2)
      generalize upd H2 rd (.frz o (.dK kv)) = H3 at C3 hrd3 s3 ⊢
      have hf3 := C3 _ _ rf.symm h2
      have dv3 := (dv.imp fun _ _ z => z.same s2).imp fun _ _ z => z.chgD (s2 _ _ hrd) C3
      have hk : (kv.map fun q => kV q.1) = ((rowsR n i).map (·.1)).map V.int := dv.keys
      refine forKs hk (fun j σ H' => ∃ (kf : List (Key × V)) (o5 o6 o7 o8 o9 o10 o11 : Option V), σ = [some (.int n), some (.int (P0 : Int)), some (.ref rd), some (.int (0 + (i : Int))), some (.ref fr), o5, o6, o7, o8, o9, o10, o11] ∧ Same H H' ∧ H' rd = some (.frz o (.dK kv)) ∧ DV (tR H') kv (rowsR n i) ∧ H' fr = some (.dK kf) ∧ DV (tR H') kf (((rowsR n i).take j).foldl (carR bit) []) ∧ GR P0 n (P0 - (i + 1)) b' (((rowsR n i).take j).foldl (carR bit) []))
        ⟨_, _, _, _, _, _, _, _, rfl, s3, hrd3, dv3, hf3, .nil, gr_nil⟩ ?_ ?_ ?_
      · rintro j σ H' _ ⟨_, _, _, _, _, _, _, _, _, _, h, _⟩
        exact h
      · rintro j x σ H4 N4 hx ⟨kf, o5, o6, o7, o8, o9, o10, o11, rfl, s4, hrd4, dv4, hf4, df4, g4⟩ hN4
        obtain ⟨c, hc1, rfl⟩ := map_at hx
        rw [List.getElem?_map] at hc1
        cases hrj : (rowsR n i)[j]? with
        | none => rw [hrj] at hc1; cases hc1
        | some r =>
        rw [hrj] at hc1
        cases hc1
        have rm := List.mem_of_getElem? hrj
        obtain ⟨c, m, k⟩ := r
        obtain ⟨v, hv, t, rfl, ht⟩ := (dv4.val c).2 _ (lk_of_mem gr.nd rm)
        have ht' : H4 t = some (.tup [.int m, .int k]) := ht
        try walk_at "WP"
        rw [w_dgF]
        refine ⟨kv, .inr ⟨o, hrd4⟩, _, hv, ?_⟩
        (iterate 5 ((try (walk_at "WP")); (try (simp only [ht', Option.some.injEq, HO.tup.injEq, HO.lst.injEq, HO.dK.injEq, exists_eq_left', exists_eq_left])))); (try (walk_at "WP"))
        rw [show (0 + (i : Int)).toNat = i by omega, and1, hbb]
        refine ⟨by omega, fun l1 nl1 => ?_⟩
        refine abs_ nl1 fun H5 s5 h5 => ?_
        intro l2 nl2
        refine abs_ nl2 fun H6 s6 h6 => ?_
        intro l3 nl3
        refine abs_ nl3 fun H7 s7 h7 => ?_
        have s47 := (s5.trans s6).trans s7
        have hdg : ∃ a, atI [V.ref l1, V.ref l2] ((bit + c) % 2) = some (.ref a) ∧ H7 a = some (.lst ((digs (bit + c)).map V.int)) := by
          rcases digs_two (bit + c) with ⟨e1, e2⟩ | ⟨e1, e2⟩
          · rw [e1, e2]
            exact ⟨l1, rfl, (s6.trans s7) _ _ h5⟩
          · rw [e1, e2]
            exact ⟨l2, rfl, s7 _ _ h6⟩
        obtain ⟨a, ea, ha⟩ := hdg
        refine ⟨_, ea, a, rfl, ⟨_, SqL.of ha⟩, ?_⟩
        have hf7 := s47 _ _ hf4
        have df7 := df4.imp fun _ _ z => z.same s47
        have s7H := s4.trans s47
        have hc01 := gr.ky _ rm
        have hrl := gr2.rl _ rm
        refine forL (xs := (digs (bit + c)).map V.int) (fun q σ H' => ∃ (kf : List (Key × V)) (o9 o10 o11 : Option V), σ = [some (.int n), some (.int (P0 : Int)), some (.ref rd), some (.int (0 + (i : Int))), some (.ref fr), some (.int c), some (.int m), some (.int k), some (.int (bit + c)), o9, o10, o11] ∧ Chg fr H7 H' ∧ H' fr = some (.dK kf) ∧ DV (tR H') kf (((digs (bit + c)).take q).foldl (fun a d => putR a ((bit + c - d) / 2) (m + (if d < 0 then -d else d)) k) (((rowsR n i).take j).foldl (carR bit) [])) ∧ GR P0 n (P0 - (i + 1)) b' (((digs (bit + c)).take q).foldl (fun a d => putR a ((bit + c - d) / 2) (m + (if d < 0 then -d else d)) k) (((rowsR n i).take j).foldl (carR bit) [])))
          ⟨_, _, _, _, rfl, Chg.refl, hf7, df7, g4⟩ ?_ ?_ ?_
        · rintro q σ H' _ ⟨_, _, _, _, _, C, _⟩
          exact SqL.of (C _ _ (ne_of ha hf7 (by intro z; cases z)) ha)
        · rintro q x σ H8 N8 hx ⟨kf8, o9, o10, o11, rfl, C8, hf8, df8, g8⟩ hN8
          obtain ⟨d, hd, rfl⟩ := map_at hx
          have dm := List.mem_of_getElem? hd
          have stp := (step_one bit01 g8 hc01 (d := d) dm hrl).1
          have gl := g8.len
          have kl := df8.len
          rw [List.take_succ, hd, Option.toList_some, List.foldl_append] at hN8
          have hN9 : ∀ σ' H', (∃ (kf : List (Key × V)) (o9 o10 o11 : Option V), σ' = [some (.int n), some (.int (P0 : Int)), some (.ref rd), some (.int (0 + (i : Int))), some (.ref fr), some (.int c), some (.int m), some (.int k), some (.int (bit + c)), o9, o10, o11] ∧ Chg fr H7 H' ∧ H' fr = some (.dK kf) ∧ DV (tR H') kf (putR (((digs (bit + c)).take q).foldl (fun a d => putR a ((bit + c - d) / 2) (m + (if d < 0 then -d else d)) k) (((rowsR n i).take j).foldl (carR bit) [])) ((bit + c - d) / 2) (m + (if d < 0 then -d else d)) k) ∧ GR P0 n (P0 - (i + 1)) b' (putR (((digs (bit + c)).take q).foldl (fun a d => putR a ((bit + c - d) / 2) (m + (if d < 0 then -d else d)) k) (((rowsR n i).take j).foldl (carR bit) [])) ((bit + c - d) / 2) (m + (if d < 0 then -d else d)) k)) → N8 σ' H' := hN8
          clear hN8
          have stp : GR P0 n (P0 - (i + 1)) b' (putR (((digs (bit + c)).take q).foldl (fun a d => putR a ((bit + c - d) / 2) (m + (if d < 0 then -d else d)) k) (((rowsR n i).take j).foldl (carR bit) [])) ((bit + c - d) / 2) (m + (if d < 0 then -d else d)) k) := stp
          generalize ((digs (bit + c)).take q).foldl (fun a d => putR a ((bit + c - d) / 2) (m + (if d < 0 then -d else d)) k) (((rowsR n i).take j).foldl (carR bit) []) = acc at df8 g8 stp hN9 gl kl
          generalize hmd : m + (if d < 0 then -d else d) = m' at stp hN9
          try walk_at "WP"
          rw [w_dget2]
          try walk_at "WP"
          rw [hmd]
          refine ⟨⟨by decide, by decide⟩, (get_of (c := 0) (.inl hf8)).1, fun tp ntp => ?_⟩
          refine abs_ ntp fun H9 s9 h9 => ?_
          have hf9 := s9 _ _ hf8
          have df9 := df8.imp fun _ _ z => z.same s9
          generalize (bit + c - d) / 2 = to at stp hN9 ⊢
          refine ⟨_, (get_of (c := to) (.inl hf9)).2, ?_⟩
          have hold : ∃ t', (valV kf8 (.inl to)).getD (V.ref tp) = .ref t' ∧ H9 t' = some (.tup [.int ((lk acc to).getD (m', 0)).1, .int ((lk acc to).getD (m', 0)).2]) := by
            cases e : lk acc to with
            | none =>
              rw [(df9.val to).1 e]
              exact ⟨tp, rfl, h9⟩
            | some X =>
              obtain ⟨u, hu, t', rfl, ht'⟩ := (df9.val to).2 X e
              rw [hu]
              exact ⟨t', rfl, ht'⟩
          obtain ⟨t', et, ht'⟩ := hold
          rw [et]
          have fin : ∀ (HX : Hp) (tv : Addr), Same H9 HX → HX tv = some (.tup [.int (if m' < ((lk acc to).getD (m', 0)).1 then (m', k) else if m' = ((lk acc to).getD (m', 0)).1 then (((lk acc to).getD (m', 0)).1, ((lk acc to).getD (m', 0)).2 + k) else (lk acc to).getD (m', 0)).1, .int (if m' < ((lk acc to).getD (m', 0)).1 then (m', k) else if m' = ((lk acc to).getD (m', 0)).1 then (((lk acc to).getD (m', 0)).1, ((lk acc to).getD (m', 0)).2 + k) else (lk acc to).getD (m', 0)).2]) → ∃ kvs, HX fr = some (.dK kvs) ∧ kvs.length < sizeLine ∧ N8 [some (V.int n), some (V.int (P0 : Int)), some (V.ref rd), some (V.int (0 + (i : Int))), some (V.ref fr), some (V.int c), some (V.int m), some (V.int k), some (V.int (bit + c)), some (V.int d), some (V.int to), some (V.ref t')] (upd HX fr (.dK (putK kvs (.inl to) (.ref tv)))) := fun HX tv sX hX => by
            have hfX := sX _ _ hf9
            refine ⟨kf8, hfX, lt_big (by omega), hN9 _ _ ⟨_, _, _, _, rfl, (C8.trans (s9.trans sX).chg).trans (Chg.upd _), upd_same, ?_, stp⟩⟩
            unfold putR
            exact (((df9.imp fun _ _ z => z.same sX).put ⟨tv, rfl, hX⟩).imp fun _ _ z => z.chgD hfX (Chg.upd _))
          generalize hX : (lk acc to).getD (m', 0) = X at ht' fin
          (iterate 5 ((try (walk_at "WP")); (try (simp only [ht', Option.some.injEq, HO.tup.injEq, HO.lst.injEq, HO.dK.injEq, exists_eq_left', exists_eq_left])))); (try (walk_at "WP"))
          refine ite2 (fun z => ?_) (fun z => ?_)
          · intro r1 nr1
            refine abs_ nr1 fun HA sA hA => ?_
            refine fin HA r1 sA ?_
            rw [if_pos z]
            exact hA
          refine ite2 (fun z1 => ?_) (fun z1 => ?_)
          · intro r1 nr1
            refine abs_ nr1 fun HA sA hA => ?_
            refine fin HA r1 sA ?_
            rw [if_neg z, if_pos z1]
            exact hA
          · refine fin H9 t' (Same.refl _) ?_
            rw [if_neg z, if_neg z1]
            exact ht'
        · rintro σ H8 ⟨kf8, o9, o10, o11, rfl, C8, hf8, df8, g8⟩
          rw [List.length_map, List.take_length] at df8 g8
          have sH8 : Same H H8 := fun b o e => C8 b o (ne_of_none e ffr) (s7H b o e)
          refine hN4 _ _ ⟨_, _, _, _, _, _, _, _, rfl, sH8, C8 _ _ rf (s47 _ _ hrd4), (dv4.imp fun _ _ z => z.same s47).imp fun _ _ z => z.chgD hf7 C8, hf8, ?_, ?_⟩
          · rw [List.take_succ, hrj, Option.toList_some, List.foldl_append]
            exact df8
          · rw [List.take_succ, hrj, Option.toList_some, List.foldl_append]
            exact g8
      · rintro σ H4 ⟨kf, o5, o6, o7, o8, o9, o10, o11, rfl, s4, hrd4, dv4, hf4, df4, g4⟩
        rw [List.length_map, List.length_map, List.take_length] at df4
        try walk_at "WP"
        exact hN' _ _ ⟨fr, kf, _, _, _, _, _, _, _, _, _, rfl, s4, ffr, hf4, df4⟩
    · rintro σ H1 ⟨rd, kv, o3, o4, o5, o6, o7, o8, o9, o10, o11, rfl, s1, frd, hrd, dv⟩
      exact hN0 _ _ ⟨rd, kv, _, _, _, _, _, _, _, _, _, rfl, s1, frd, hrd, dv⟩
  · rintro σ H1 ⟨rd, kv, o3, o4, o5, o6, o7, o8, o9, o10, o11, rfl, s1, frd, hrd, dv⟩
    try walk_at "WP"
    rw [w_forKs, w_frz]
    try walk_at "WP"
    refine ⟨kv, hrd, fun o => ⟨o, kv, rfl, ?_⟩⟩
    have C3 : Chg rd H1 (upd H1 rd (.frz o (.dK kv))) := Chg.upd _
    have hrd3 : upd H1 rd (.frz o (.dK kv)) rd = some (.frz o (.dK kv)) := upd_same
    have s3 : Same H (upd H1 rd (.frz o (.dK kv))) := same_upd frd s1
    generalize upd H1 rd (.frz o (.dK kv)) = H3 at C3 hrd3 s3 ⊢
    have dv3 := dv.imp fun _ _ z => z.chgD hrd C3
    have hk : (kv.map fun q => kV q.1) = ((rowsR n P0).map (·.1)).map V.int := dv.keys
    obtain ⟨gr, tot⟩ := rows_all P0 n P0 (Nat.le_refl _)
    rw [Nat.sub_self] at tot
    refine forKs hk (fun j σ H' => ∃ o5, σ = [some (.int n), some (.int (P0 : Int)), some (.ref rd), o3, o4, o5, o6, o7, o8, o9, o10, o11] ∧ Same H3 H' ∧ ∀ r ∈ (rowsR n P0).take j, ¬ (n / 2 ^ P0 + r.1 = 0 ∧ r.2.1 = (wn n : Int))) ⟨_, rfl, Same.refl _, fun r hr' => by cases hr'⟩ ?_ ?_ ?_
    · rintro j σ H' _ ⟨_, _, s', _⟩
      exact s' _ _ hrd3
    · rintro j x σ H4 N4 hx ⟨o5, rfl, s4, hno⟩ hN4
      obtain ⟨c, hc1, rfl⟩ := map_at hx
      rw [List.getElem?_map] at hc1
      cases hrj : (rowsR n P0)[j]? with
      | none => rw [hrj] at hc1; cases hc1
      | some r =>
      rw [hrj] at hc1
      cases hc1
      have rm := List.mem_of_getElem? hrj
      obtain ⟨c, m, k⟩ := r
      obtain ⟨v, hv, t, rfl, ht⟩ := (dv3.val c).2 _ (lk_of_mem gr.nd rm)
      have ht4 : H4 t = some (.tup [.int m, .int k]) := s4 _ _ ht
      try walk_at "WP"
      rw [Int.toNat_natCast]
      refine ⟨by omega, ?_⟩
      have next : ∀ H5, Same H4 H5 → ¬ (n / 2 ^ P0 + c = 0 ∧ m = (wn n : Int)) → N4 [some (.int n), some (.int (P0 : Int)), some (.ref rd), o3, o4, some (.int c), o6, o7, o8, o9, o10, o11] H5 := fun H5 s5 hz => hN4 _ _ ⟨_, rfl, s4.trans s5, fun r hr' => by
        rw [List.take_succ, hrj, Option.toList_some] at hr'
        rcases List.mem_append.mp hr' with z | z
        · exact hno r z
        · rw [List.mem_singleton.mp z]; exact hz⟩
      refine ite2 (fun z => ?_) (fun z => ?_)
      · rw [w_dgF]
        refine ⟨kv, .inr ⟨o, s4 _ _ hrd3⟩, _, hv, ?_⟩
        (iterate 5 ((try (walk_at "WP")); (try (simp only [ht4, Option.some.injEq, HO.tup.injEq, HO.lst.injEq, HO.dK.injEq, exists_eq_left', exists_eq_left])))); (try (walk_at "WP"))
        refine ⟨n, rfl, big_of hb (by decide), fun H5 s5 => ?_⟩
        try walk_at "WP"
        refine ite2 (fun z1 => ?_) (fun z1 => ?_)
        · rw [w_dgF]
          refine ⟨kv, .inr ⟨o, (s4.trans s5) _ _ hrd3⟩, _, hv, ?_⟩
          have ht5 := s5 _ _ ht4
          (iterate 5 ((try (walk_at "WP")); (try (simp only [ht5, Option.some.injEq, HO.tup.injEq, HO.lst.injEq, HO.dK.injEq, exists_eq_left', exists_eq_left])))); (try (walk_at "WP"))
          rw [tot_hit gr.nd rm z z1] at tot
          rw [show k = hmW P0 n from tot]
          exact q _ (s3.trans (s4.trans s5))
        · exact next _ s5 fun y => z1 y.2
      · exact next _ (Same.refl _) fun y => z y.1
    · rintro σ H4 ⟨o5, rfl, s4, hno⟩
      rw [List.length_map, List.length_map, List.take_length] at hno
      try walk_at "WP"
      rw [tot_miss hno] at tot
      rw [tot]
      exact q _ (s3.trans s4)
end

section
variable {P : Program} {w : World} {K : PySem.W.Frag} {mg : Str → Option Value} {base : Heap}
theorem ok_ends (T : Txt K mg) : Cal P w K mg base 1 "endings_ahead" ["level", "endings"] spEnds := by
  have B := T.bl
  refine mkCal T.t_endings_ahead sc_endings_ahead (fun vs H Q E h => ?_) (fun f cdv A outer s H vs Q E hr h => ?_)
  · obtain ⟨_, _, _, _, _, _, _, _, rfl, _⟩ := h
    rfl
  obtain ⟨d, c, o, kvs, kvc, ks, t, rows, rfl, hd, dv, kn, kl, hc, dc, hg, hs4, t1000, q⟩ := h
  refine ⟨_, ((@pss_cons _ _ _ _ _ (@ps_set _ _ (2) _ _ _ _ sc_endings_ahead.nd rfl (by first | exact Or.inl rfl | exact Or.inr rfl) pe_dnewK (by rfl) (by first | exact .inl rfl | exact .inr rfl | assumption)) (@pss_cons _ _ _ _ _ (@ps_for _ _ _ _ _ _ _ _ PassesOwn.never rfl (@pi_dict _ _ _ _ (pv 0)) (@pg_name _ _ (3) _ sc_endings_ahead.nd rfl (by first | exact Or.inl rfl | exact Or.inr rfl) (by first | exact .inl rfl | exact .inr rfl | assumption)) (@pss_cons _ _ _ _ _ (@ps_set _ _ (4) _ _ _ _ sc_endings_ahead.nd rfl (by first | exact Or.inl rfl | exact Or.inr rfl) (@pe_lst _ _ _ _ pa_nil) (by rfl) (by first | exact .inl rfl | exact .inr rfl | assumption)) (@pss_cons _ _ _ _ _ (@ps_for _ _ _ _ _ _ _ _ PassesOwn.never rfl (@pi_list _ _ _ _ (@pe_dgF _ _ _ _ _ _ (@hu_of _ _ hr) (pv 0) (pv 3) (fun _ _ => rfl))) (@pg_tupM _ _ _ _ _ 2 rfl (@pgs_cons _ _ _ _ _ (@pg_name _ _ (5) _ sc_endings_ahead.nd rfl (by first | exact Or.inl rfl | exact Or.inr rfl) (by first | exact .inl rfl | exact .inr rfl | assumption)) (@pgs_cons _ _ _ _ _ (@pg_name _ _ (6) _ sc_endings_ahead.nd rfl (by first | exact Or.inl rfl | exact Or.inr rfl) (by first | exact .inl rfl | exact .inr rfl | assumption)) pgs_nil (by rfl)) (by rfl)) (by rfl) (by rfl)) (@pss_one _ _ _ (@ps_expr _ _ _ _ (@pe_bm _ _ _ _ _ _ _ _ _ _ _ _ PySem.F.plainAttrs_list PySem.F.slot_list_extend PySem.F.type_list_extend mt_extend (pv 4) (@pa_cons _ _ _ _ _ (@pe_compC _ _ _ _ _ _ _ _ (["ending", "digit"]) (1) ([5]) _ _ _ rfl (@pi_list _ _ _ _ (@pe_dget2 _ _ _ _ _ _ _ _ _ (@hu_of _ _ hr) (pv 1) (pv 6) (@pe_lst _ _ _ _ pa_nil) ⟨rfl, rfl, rfl, rfl⟩)) (fun nd C s H fp => ⟨(@pg_name _ _ (0) _ nd rfl (by first | exact Or.inl rfl | exact Or.inr rfl) (by first | exact .inl rfl | exact .inr rfl | assumption)), pn_nil, (@pe_op _ _ _ _ _ _ _ _ op_cat (@pe_lst _ _ _ _ (@pa_cons _ _ _ _ _ (pv 1) pa_nil (by rfl))) (pv 0))⟩) (by decide +kernel) (by first | rfl | decide +kernel) (by first | rfl | decide +kernel) rfl (fun _ => rfl)) pa_nil (by rfl)) (by rfl) (by rfl) (by rfl) (by rfl) (by rfl)) (by rfl))) (by intro _ ; rfl)) (@pss_one _ _ _ (@ps_dpM _ _ _ _ _ _ _ _ _ (@hu_of _ _ hr) (pv 2) (pv 3) (pv 4) rfl)))) (by intro _ ; rfl)) (@pss_one _ _ _ (@ps_ret _ _ _ _ (pv 2)))))), ?_⟩
  rw [show start ["level", "endings", "ahead", "rest", "longer", "digit", "left"] [.ref d, .ref c] = [some (.ref d), some (.ref c), none, none, none, none, none] from rfl]
  try walk_at "WP"
  intro p np
  refine abs_ np fun H1 s1 h1 => ?_
  rw [w_forKs]
  try walk_at "WP"
  refine ⟨o, kvs, s1 _ _ hd, ?_⟩
  have hk : (kvs.map fun q => kV q.1) = ks.map V.int := by rw [dv.keys, rowL_keys]
  refine forKs hk (fun j σ H' => ∃ (ka : List (Key × V)) (o3 o4 o5 o6 : Option V), σ = [some (.ref d), some (.ref c), some (.ref p), o3, o4, o5, o6] ∧ Same H H' ∧ H' p = some (.dK ka) ∧ DV (eR H') ka ((ks.take j).map fun r => (r, wrs (t + 1) r)))
    ⟨_, _, _, _, _, rfl, s1, h1, .nil⟩ ?_ ?_ ?_
  · rintro j σ H' _ ⟨_, _, _, _, _, _, s', _⟩
    exact s' _ _ hd
  · rintro j x σ H2 N hx ⟨ka, o3, o4, o5, o6, rfl, s2, h2, d2⟩ hN
    obtain ⟨r, hr, rfl⟩ := map_at hx
    have rm : r ∈ ks := List.mem_of_getElem? hr
    obtain ⟨v, hv, l, us, rfl, hl, hts⟩ := (dv.val r).2 _ (lk_rowL rm kn)
    try walk_at "WP"
    intro lg nlg
    refine abs_ nlg fun H3 s3 h3 => ?_
    have s23 := s2.trans s3
    have flg : H lg = none := s2.free nlg
    rw [w_dgF]
    refine ⟨kvs, .inr ⟨o, s23 _ _ hd⟩, _, hv, l, rfl, ⟨_, SqL.of (s23 _ _ hl)⟩, ?_⟩
    refine forL (xs := us) (fun m σ H' => ∃ (zs : List V) (o5 o6 : Option V), σ = [some (.ref d), some (.ref c), some (.ref p), some (.int r), some (.ref lg), o5, o6] ∧ Same H2 H' ∧ H' lg = some (.lst zs) ∧ HRs H' [lg] zs (((stepsF r (t + 1)).take m).flatMap fun s => (wrs t s.2).map fun y => s.1 :: y))
      ⟨_, _, _, rfl, s3, h3, ⟨rfl, fun k r e => by cases e⟩⟩ ?_ ?_ ?_
    · rintro m σ H' _ ⟨_, _, _, _, s', _⟩
      exact SqL.of ((s2.trans s') _ _ hl)
    · rintro m v σ H4 N4 hv ⟨zs, o5, o6, rfl, s4, h4, hz⟩ hN4
      have hm : m < (stepsF r (t + 1)).length := by rw [← hts.len]; exact (List.getElem?_eq_some_iff.mp hv).1
      have es := List.getElem?_eq_getElem hm
      have sm := List.getElem_mem hm
      generalize (stepsF r (t + 1))[m] = st at es sm
      obtain ⟨tp, e1, e2⟩ := hts.at_ m st es
      rw [hv] at e1
      cases e1
      have e4 := (s2.trans s4) _ _ e2
      unfold stT at e4
      (iterate 5 ((try (walk_at "WP")); (try (simp only [e4, Option.some.injEq, HO.tup.injEq, HO.lst.injEq, HO.dK.injEq, exists_eq_left', exists_eq_left])))); (try (walk_at "WP"))
      rw [w_dget2]
      try walk_at "WP"
      have hc4 := (s2.trans s4) _ _ hc
      refine ⟨ty_list h4, (get_of (c := 0) (.inl hc4)).1, fun ld nld => ?_⟩
      refine abs_ nld fun H5 s5 h5 => ?_
      have sH5 := (s2.trans s4).trans s5
      refine ⟨_, (get_of (c := st.2) (.inl (s5 _ _ hc4))).2, ?_⟩
      have hsrc : ∃ a, (valV kvc (.inl st.2)).getD (V.ref ld) = .ref a ∧ eR H5 (.ref a) (wrs t st.2) := by
        have hw := hg r rm st sm
        cases e : lk rows st.2 with
        | none =>
          rw [(dc.val st.2).1 e]
          rw [e] at hw
          rw [← show [] = wrs t st.2 from hw]
          exact ⟨ld, rfl, ld, [], rfl, h5, rfl, fun k r e => by cases e⟩
        | some X =>
          obtain ⟨u, hu, ru⟩ := (dc.val st.2).2 X e
          rw [hu]
          rw [e] at hw
          rw [show X = wrs t st.2 from hw] at ru
          have ru5 := ru.same sH5
          obtain ⟨a, us', rfl, _⟩ := id ru5
          exact ⟨a, rfl, ru5⟩
      obtain ⟨a, ea, he⟩ := hsrc
      obtain ⟨vs', hvs', _⟩ := id he.ll
      refine ⟨a, ea, ⟨_, SqL.of hvs'⟩, ?_⟩
      have w4 := hs4 r rm st sm
      refine comp_LL he.ll (by omega) (fun y => st.1 :: y) (fun pl y H' R hy hp s' hR => ?_) (fun acc H6 na s6 hL => ?_)
      · rw [show capV [5] [some (V.ref d), some (V.ref c), some (V.ref p), some (V.int r), some (V.ref lg), some (V.int st.1), some (V.int st.2)] = [some (V.int st.1)] from rfl]
        try walk_at "WP"
        intro q1 nq1
        refine abs_ nq1 fun H7 s7 h7 => ?_
        refine ⟨_, s7 _ _ hp, ?_, fun q2 nq2 => ?_⟩
        · have := (wrs_ok t _ _ hy).1.1
          rw [List.length_map, this]
          exact le_big (by omega)
        · refine abs_ nq2 fun H8 s8 h8 => hR q2 H8 (s7.free nq2) (s7.trans s8) ?_
          rw [h8]
          rfl
      · have hz6 := (hz.same s5).same s6
        have h46 := (s5.trans s6) _ _ h4
        obtain ⟨ws, hacc, hrw⟩ := hL.rows h46 hz6 (fun c hc' => by
          obtain ⟨y, _, rfl⟩ := List.mem_map.mp hc'
          exact List.cons_ne_nil _ _)
        refine ⟨lg, acc, zs, ws, rfl, rfl, h46, hacc, ?_, ?_⟩
        · have l1 := hz.len
          have l2 := hrw.len
          have l3 := flat_len (f := fun s : Int × Int => (wrs t s.2).map fun y => s.1 :: y) (n := 400) (xs := (stepsF r (t + 1)).take m) fun s hs => by
            rw [List.length_map]
            exact hs4 r rm s (List.mem_of_mem_take hs)
          rw [List.length_take] at l3
          rw [List.length_map] at l2
          have := steps_len r (t + 1)
          have : 400 * min m (stepsF r (t + 1)).length ≤ 800 := by
            have : min m (stepsF r (t + 1)).length ≤ 2 := by omega
            omega
          exact le_big (by omega)
        refine hN4 _ _ ⟨_, _, _, rfl, same_upd nlg ((s4.trans s5).trans s6), upd_same, ?_⟩
        rw [List.take_succ, es, Option.toList_some, List.flatMap_append, List.flatMap_cons, List.flatMap_nil, List.append_nil]
        exact (hz6.join hrw).chg (List.mem_singleton.mpr rfl) (Chg.upd _)
    · rintro σ H4 ⟨zs, o5, o6, rfl, s4, h4, hz⟩
      rw [hts.len, List.take_length] at hz
      have h4p := s4 _ _ h2
      (iterate 5 ((try (walk_at "WP")); (try (simp only [h4p, Option.some.injEq, HO.tup.injEq, HO.lst.injEq, HO.dK.injEq, exists_eq_left', exists_eq_left])))); (try (walk_at "WP"))
      have kl2 : ka.length ≤ 2 := by rw [d2.len, List.length_map, List.length_take]; omega
      refine ⟨lt_big (by omega), hN _ _ ⟨_, _, _, _, _, rfl, same_upd np (s2.trans s4), upd_same, ?_⟩⟩
      rw [← mapK_snoc (f := wrs (t + 1)) kn hr]
      have hz0 : HRs H4 [] zs (wrs (t + 1) r) := hz.sub (fun e he => by cases he)
      have D4 : DV (eR H4) (putK ka (.inl r) (.ref lg)) (putL ((ks.take j).map fun r => (r, wrs (t + 1) r)) r (wrs (t + 1) r)) := (d2.imp fun _ _ z => z.same s4).put ⟨lg, zs, rfl, h4, hz0⟩
      exact D4.imp fun v x z => by
        obtain ⟨l', us', e1, e2, e3⟩ := z
        have cu := Chg.upd (p := p) (H := H4) (.dK (putK ka (.inl r) (.ref lg)))
        exact ⟨l', us', e1, cu _ _ (ne_of e2 h4p (by intro z; cases z)) e2, ⟨e3.len, fun k r e => by
          obtain ⟨q, f1, f2, f3⟩ := e3.at_ k r e
          exact ⟨q, f1, cu _ _ (ne_of f2 h4p (by intro z; cases z)) f2, f3⟩⟩⟩
  · rintro σ H2 ⟨ka, o3, o4, o5, o6, rfl, s2, h2, d2⟩
    rw [List.length_map, List.take_length] at d2
    try walk_at "WP"
    exact q p ka _ np s2 h2 d2
end

section
variable {P : Program} {w : World} {K : PySem.W.Frag} {mg : Str → Option Value} {base : Heap}
theorem okx_writ (T : Txt K mg) {cst_TooMany : Addr} (mg_TooMany : mg "TooMany" = some (.ref cst_TooMany)) (xi_TooMany : PySem.W.excIn K cst_TooMany [.type "ValueError", .type "Exception", .type "BaseException", .type "object"] "ValueError.__new__" = true) : CalX P w K mg base 7 "writings" ["number", "places"] (spWritX cst_TooMany) := by
  have B := T.bl
  obtain ⟨_, mg_MOST_TOLD⟩ := T.i_MOST_TOLD
  have C_how_many := ok_how (P := P) (w := w) (base := base) T
  have C_levels := (ok_levels (P := P) (w := w) (base := base) T).mono (k := 6) (by decide)
  have C_endings_ahead := (ok_ends (P := P) (w := w) (base := base) T).mono (k := 6) (by decide)
  refine mkCalX T.t_writings sc_writings (fun vs H Q E h => ?_) (fun f cdv A outer s H vs Q E hr h => ?_)
  · obtain ⟨n, p, rfl, _⟩ := h
    rfl
  obtain ⟨n, P0, rfl, hb, hp, qE, q⟩ := h
  refine ⟨_, ((@pss_cons _ _ _ _ _ (@ps_if _ _ _ _ _ _ _ _ (@pt_cmpR _ _ _ _ _ _ _ _ op_gt (@pe_cal _ _ _ _ _ _ _ _ _ _ C_how_many hr rfl (@pa_cons _ _ _ _ _ (pv 0) (@pa_cons _ _ _ _ _ (pv 1) pa_nil (by rfl)) (by rfl)) (by decide) (by rfl) (by rfl)) (@pe_glob _ _ (.int 300) _ _ rfl mg_MOST_TOLD ⟨_, rfl⟩ (by decide)) (@nomark _ _ (by decide) (by decide))) (@pss_one _ _ _ (@ps_raise _ _ _ (cst_TooMany) _ _ _ _ _ _ _ _ _ _ raises_of xi_TooMany PySem.F.excBase_ValueError rfl (fun _ z => nomatch z) rfl mg_TooMany (@pa_cons _ _ _ _ _ pe_str pa_nil (by rfl)) (by decide) (by rfl) (by rfl))) pss_nil) (@pss_cons _ _ _ _ _ (@PS.nox _ _ _ (@ps_set _ _ (2) _ _ _ _ sc_writings.nd rfl (by first | exact Or.inl rfl | exact Or.inr rfl) (@pe_disp _ _ _ _ _ (@pps_cons _ _ _ _ _ _ _ _ _ pe_int (@pe_lst _ _ _ _ (@pa_cons _ _ _ _ _ (@pe_lst _ _ _ _ pa_nil) pa_nil (by rfl))) pps_nil) rfl rfl (by simp) (by decide)) (by rfl) (by first | exact .inl rfl | exact .inr rfl | assumption))) (@pss_cons _ _ _ _ _ (@PS.nox _ _ _ (@ps_for _ _ _ _ _ _ _ _ PassesOwn.never rfl (@pi_rev _ _ _ _ _ _ rfl B.reversed (@pa_cons _ _ _ _ _ (@pe_cal _ _ _ _ _ _ _ _ _ _ C_levels hr rfl (@pa_cons _ _ _ _ _ (pv 0) (@pa_cons _ _ _ _ _ (pv 1) pa_nil (by rfl)) (by rfl)) (by decide) (by rfl) (by rfl)) pa_nil (by rfl)) (by rfl)) (@pg_name _ _ (3) _ sc_writings.nd rfl (by first | exact Or.inl rfl | exact Or.inr rfl) (by first | exact .inl rfl | exact .inr rfl | assumption)) (@pss_one _ _ _ (@ps_set _ _ (2) _ _ _ _ sc_writings.nd rfl (by first | exact Or.inl rfl | exact Or.inr rfl) (@pe_cal _ _ _ _ _ _ _ _ _ _ C_endings_ahead hr rfl (@pa_cons _ _ _ _ _ (pv 3) (@pa_cons _ _ _ _ _ (pv 2) pa_nil (by rfl)) (by rfl)) (by decide) (by rfl) (by rfl)) (by rfl) (by first | exact .inl rfl | exact .inr rfl | assumption))) (by intro _ ; rfl))) (@pss_one _ _ _ (@PS.nox _ _ _ (@ps_ret _ _ _ _ (@pe_callB _ _ _ _ _ _ _ _ _ (@call_sortAs _ _ hr) rfl B.sorted bo_sorted (@pa_cons _ _ _ _ _ (@pe_dget2 _ _ _ _ _ _ _ _ _ (@hu_of _ _ hr) (pv 2) (pv 0) (@pe_lst _ _ _ _ pa_nil) ⟨rfl, rfl, rfl, rfl⟩) pa_nil (by rfl)) (by decide) (by decide) (by rfl) (by rfl))))))))), ?_⟩
  rw [show start ["number", "places", "endings", "level"] [.int n, .int P0] = [some (.int n), some (.int P0), none, none] from rfl]
  try walk_at "WP"
  refine ⟨n, P0, rfl, hb, hp, fun H0 s0 => ?_⟩
  try walk_at "WP"
  refine ite2 (fun z => ?_) (fun z => ?_)
  · rw [w_raise]
    try walk_at "WP"
    exact qE (by omega) _ s0
  have h300 : hmW P0 n ≤ 300 := by omega
  replace q := q h300
  intro c0 nc0
  refine abs_ nc0 fun G1 t1 g1 => ?_
  intro l0 nl0
  refine abs_ nl0 fun G2 t2 g2 => ?_
  intro l1 nl1
  refine abs_ nl1 fun G3 t3 g3 => ?_
  have g13 := (t2.trans t3) _ _ g1
  refine ⟨g13, [(.inl 0, .ref l1)], rfl, by show 1 ≤ 15; decide, ?_⟩
  have C4 : Chg c0 G3 (upd G3 c0 (.dK (mergeK [] [((.inl 0 : Key), V.ref l1)]))) := Chg.upd _
  have hc0 : upd G3 c0 (.dK (mergeK [] [((.inl 0 : Key), V.ref l1)])) c0 = some (.dK [(.inl 0, .ref l1)]) := upd_same
  have s4 : Same H0 (upd G3 c0 (.dK (mergeK [] [((.inl 0 : Key), V.ref l1)]))) := same_upd nc0 ((t1.trans t2).trans t3)
  generalize upd G3 c0 (.dK (mergeK [] [((.inl 0 : Key), V.ref l1)])) = G4 at C4 hc0 s4 ⊢
  have hl1 := C4 _ _ (ne_of g3 g13 (by intro z; cases z)) g3
  have hl0 := C4 _ _ (ne_of (t3 _ _ g2) g13 (by intro z; cases z)) (t3 _ _ g2)
  have eR0 : eR G4 (.ref l1) [[]] := ⟨l1, [.ref l0], rfl, hl1, HRs.snoc (vs := []) (rs := []) ⟨rfl, fun k r e => by cases e⟩ hl0 (fun e he => by cases he)⟩
  refine ⟨n, P0, rfl, hb, hp, fun l us H1 nl s1 h1 ul hlv => ?_⟩
  refine ⟨l, rfl, us, SqL.of h1, ?_⟩
  refine forV (xs := us) (fun t σ H' => ∃ (c : Addr) (kv : List (Key × V)) (rows : List (Int × List (List Int))) (o3 : Option V), σ = [some (.int n), some (.int (P0 : Int)), some (.ref c), o3] ∧ Same H1 H' ∧ H' c = some (.dK kv) ∧ DV (eR H') kv rows ∧ ∀ x, (t = 0 ∨ x ∈ keyL P0 n (P0 - t)) → (lk rows x).getD [] = wrs t x)
    ⟨c0, _, [(0, [[]])], _, rfl, Same.refl _, s1 _ _ hc0, .cons (eR0.same s1) .nil, fun x _ => ?_⟩ ?_ ?_ ?_
  · rw [lk_cons, wrs]
    by_cases z : x = 0
    · rw [if_pos z.symm, if_pos z]; rfl
    · rw [if_neg (fun y => z y.symm), if_neg z]; rfl
  · rintro t σ H' _ ⟨_, _, _, _, _, s', _⟩
    exact SqL.of (s' _ _ h1)
  · rintro t v σ H2 N hv ⟨c, kv, rows, o3, rfl, s2, hc, dc, hok⟩ hN
    have ht : t < us.length := by
      have := (List.getElem?_eq_some_iff.mp hv).1
      rwa [List.length_reverse] at this
    rw [List.getElem?_reverse ht] at hv
    obtain ⟨d, o, kvs, rfl, hd, dv⟩ := hlv _ _ hv
    have e1 : P0 - (us.length - 1 - t) = t + 1 := by omega
    rw [e1] at dv
    try walk_at "WP"
    have inK : ∀ r ∈ keyL P0 n (us.length - 1 - t), ∀ s ∈ stepsF r (t + 1), s.2 ∈ keyL P0 n (P0 - t) := fun r hr s hs => by
      have := keyL_next hr (s := s) (by rw [e1]; exact hs)
      rwa [show us.length - 1 - t + 1 = P0 - t by omega] at this
    refine ⟨d, c, o, kvs, kv, _, t, rows, rfl, s2 _ _ hd, dv.imp fun _ _ z => z.same s2, keyL_nd _ _ _, keyL_len _ _ _, hc, dc, fun r hr s hs => hok _ (.inr (inK r hr s hs)), fun r hr s hs => ?_, by omega, fun c' kv' H3 nc' s3 hc' dc' => ?_⟩
    · have := keyL_hm P0 n (P0 - t) s.2 (by omega) (inK r hr s hs)
      rw [show P0 - (P0 - t) = t by omega, ← wrs_len] at this
      omega
    · refine hN _ _ ⟨c', kv', _, _, rfl, s2.trans s3, hc', dc', fun x hx => ?_⟩
      rcases hx with z | z
      · omega
      · rw [show P0 - (t + 1) = us.length - 1 - t by omega] at z
        exact wrs_map z (keyL_nd _ _ _)
  · rintro σ H2 ⟨c, kv, rows, o3, rfl, s2, hc, dc, hok⟩
    try walk_at "WP"
    rw [w_dget2]
    try walk_at "WP"
    refine ⟨(get_of (c := 0) (.inl hc)).1, fun ld nld => ?_⟩
    refine abs_ nld fun H3 s3 h3 => ?_
    refine ⟨_, (get_of (c := n) (.inl (s3 _ _ hc))).2, ?_⟩
    have hn := hok n (.inr (by rw [ul, Nat.sub_self]; exact List.mem_singleton.mpr rfl))
    rw [ul] at hn
    have hsrc : ∃ a, (valV kv (.inl n)).getD (V.ref ld) = .ref a ∧ eR H3 (.ref a) (wrs P0 n) := by
      cases e : lk rows n with
      | none =>
        rw [(dc.val n).1 e]
        rw [e] at hn
        rw [← show [] = wrs P0 n from hn]
        exact ⟨ld, rfl, ld, [], rfl, h3, rfl, fun k r e => by cases e⟩
      | some X =>
        obtain ⟨u, hu, ru⟩ := (dc.val n).2 X e
        rw [hu]
        rw [e] at hn
        rw [show X = wrs P0 n from hn] at ru
        have ru5 := ru.same s3
        obtain ⟨a, us', rfl, _⟩ := id ru5
        exact ⟨a, rfl, ru5⟩
    obtain ⟨a, ea, l', us', e', ha, hx⟩ := hsrc
    cases e'
    rw [ea]
    have hl : (us'.length : Int) ≤ 300 := by rw [hx.len, wrs_len]; exact h300
    refine ⟨a, us', wrs P0 n, P0, rfl, ha, hx.hls, by omega, wrs_nd _ _, fun x hx' => (wrs_ok _ _ _ hx').1, fun i h1 h2 => wrs_asc1 h1 (by rw [← hx.len]; exact h2), fun l2 H4 nl2 s5 h5 => ?_⟩
    have sAll := ((((s0.trans s4).trans s1).trans s2).trans s3)
    exact q l2 _ H4 (sAll.free nl2) (sAll.trans s5) h5 (hx.same s5)
end

section
variable {P : Program} {w : World} {K : PySem.W.Frag} {mg : Str → Option Value} {base : Heap}
theorem ok_toom (T : Txt K mg) {cst_NoJoin cst_ShiftError cst_Down cst_NoName cst_NoRow cst_NoText cst_NoWeb cst_NoWord cst_TooMany : Addr} (mg_NoJoin : mg "NoJoin" = some (.ref cst_NoJoin)) (mg_ShiftError : mg "ShiftError" = some (.ref cst_ShiftError)) (mg_Down : mg "Down" = some (.ref cst_Down)) (mg_NoName : mg "NoName" = some (.ref cst_NoName)) (mg_NoRow : mg "NoRow" = some (.ref cst_NoRow)) (mg_NoText : mg "NoText" = some (.ref cst_NoText)) (mg_NoWeb : mg "NoWeb" = some (.ref cst_NoWeb)) (mg_NoWord : mg "NoWord" = some (.ref cst_NoWord)) (mg_TooMany : mg "TooMany" = some (.ref cst_TooMany))
    (xi_TooMany : PySem.W.excIn K cst_TooMany [.type "ValueError", .type "Exception", .type "BaseException", .type "object"] "ValueError.__new__" = true) (xi_ShiftError : PySem.W.excIn K cst_ShiftError [.type "ValueError", .type "Exception", .type "BaseException", .type "object"] "ValueError.__new__" = true)
    (hsub : L2.subIn K cst_TooMany cst_ShiftError = true) (hek : L2.excK K cst_TooMany = true) (hve : PySem.W.kitOne K (.ref cst_TooMany) (.type "ValueError") = some true)
    (hot : PySem.W.kitAny K (.ref cst_TooMany) [.ref cst_Down, .ref cst_NoJoin, .ref cst_NoName, .ref cst_NoRow, .ref cst_NoText, .ref cst_NoWeb, .ref cst_NoWord] = some false)
    (X_writings : CalX P w K mg base 7 "writings" ["number", "places"] (spWritX cst_TooMany)) : Cal P w K mg base 8 "_law_too_many" ["_law_number", "_law_places"] spTooM := by
  have B := T.bl
  refine mkCal T.t_l_too_many sc_l_too_many (fun vs H Q E h => ?_) (fun f cdv A outer s H vs Q E hr h => ?_)
  · obtain ⟨_, _, rfl, _⟩ := h
    rfl
  obtain ⟨n, P0, rfl, hb, hp, hf, q⟩ := h
  refine ⟨_, ((@pss_cons _ _ _ _ _ (@ps_set _ _ (2) _ _ _ _ sc_l_too_many.nd rfl (by first | exact Or.inl rfl | exact Or.inr rfl) pe_non (by rfl) (by first | exact .inl rfl | exact .inr rfl | assumption)) (@pss_cons _ _ _ _ _ (@ps_tryAs _ _ _ _ _ (cst_ShiftError) _ _ (3) _ _ _ _ _ _ (@psx_expr _ _ _ _ (@pex_call _ _ _ _ _ _ _ _ _ _ X_writings hr (fun _ z => nomatch z) rfl (@pa_cons _ _ _ _ _ (pv 0) (@pa_cons _ _ _ _ _ (pv 1) pa_nil (by rfl)) (by rfl)) (by decide) (by rfl) (by rfl)) (by rfl)) xi_ShiftError (by decide +kernel) rfl mg_ShiftError sc_l_too_many.nd rfl rfl rfl rfl _ rfl (fun _ => (@pss_one _ _ _ (@ps_set _ _ (2) _ _ _ _ sc_l_too_many.nd rfl (by first | exact Or.inl rfl | exact Or.inr rfl) (pv 3) (by rfl) (by first | exact .inl rfl | exact .inr rfl | assumption)))) (by decide)) (@pss_cons _ _ _ _ _ (@ps_set _ _ (4) _ _ _ _ sc_l_too_many.nd rfl (by first | exact Or.inl rfl | exact Or.inr rfl) (@pe_callB _ _ _ _ _ _ _ _ _ call_isX rfl B.isinstance bo_isinstance (@pa_cons _ _ _ _ _ (pv 2) (@pa_cons _ _ _ _ _ (@pe_tup _ _ _ _ _ (@pa_cons _ _ _ _ _ (@pe_glob _ _ (.ref cst_Down) _ _ rfl mg_Down rfl (by decide)) (@pa_cons _ _ _ _ _ (@pe_glob _ _ (.ref cst_NoJoin) _ _ rfl mg_NoJoin rfl (by decide)) (@pa_cons _ _ _ _ _ (@pe_glob _ _ (.ref cst_NoName) _ _ rfl mg_NoName rfl (by decide)) (@pa_cons _ _ _ _ _ (@pe_glob _ _ (.ref cst_NoRow) _ _ rfl mg_NoRow rfl (by decide)) (@pa_cons _ _ _ _ _ (@pe_glob _ _ (.ref cst_NoText) _ _ rfl mg_NoText rfl (by decide)) (@pa_cons _ _ _ _ _ (@pe_glob _ _ (.ref cst_NoWeb) _ _ rfl mg_NoWeb rfl (by decide)) (@pa_cons _ _ _ _ _ (@pe_glob _ _ (.ref cst_NoWord) _ _ rfl mg_NoWord rfl (by decide)) pa_nil (by rfl)) (by rfl)) (by rfl)) (by rfl)) (by rfl)) (by rfl)) (by rfl))) pa_nil (by rfl)) (by rfl)) (by decide) (by decide) (by rfl) (by rfl)) (by rfl) (by first | exact .inl rfl | exact .inr rfl | assumption)) (@pss_one _ _ _ (@ps_ret _ _ _ _ (@pe_and _ _ _ _ _ _ _ (@pe_callB _ _ _ _ _ _ _ _ _ call_isX rfl B.isinstance bo_isinstance (@pa_cons _ _ _ _ _ (pv 2) (@pa_cons _ _ _ _ _ (@pe_glob _ _ (.ref cst_TooMany) _ _ rfl mg_TooMany rfl (by decide)) pa_nil (by rfl)) (by rfl)) (by decide) (by decide) (by rfl) (by rfl)) (@pe_and _ _ _ _ _ _ _ (@pe_callB _ _ _ _ _ _ _ _ _ call_isX rfl B.isinstance bo_isinstance (@pa_cons _ _ _ _ _ (pv 2) (@pa_cons _ _ _ _ _ (@pe_bltn _ _ (.ty "ValueError") _ _ rfl B.ValueError bo_ValueError rfl (by decide) (by decide)) pa_nil (by rfl)) (by rfl)) (by decide) (by decide) (by rfl) (by rfl)) (@pe_one _ _ _ _ _ (@pe_not _ _ _ _ (pv 4))))))))))), ?_⟩
  rw [show start ["_law_number", "_law_places", "_law_caught", "e", "_law_others"] [.int n, .int P0] = [some (.int n), some (.int P0), none, none, none] from rfl]
  try walk_at "WP"
  unfold tTryAs xDrop xCall
  try walk_at "WP"
  refine ⟨n, P0, rfl, hb, hp, fun _ H1 s0 => ?_, fun nf => absurd hf (by omega)⟩
  refine ⟨_, rfl, _, _, xi_TooMany, hsub, fun e he => ?_⟩
  have s1 := same_new he (Exc e (.ref cst_TooMany) none)
  have he1 : (upd H1 e (Exc e (.ref cst_TooMany) none)) e = some (Exc e (.ref cst_TooMany) none) := upd_same
  generalize upd H1 e (Exc e (.ref cst_TooMany) none) = H2 at s1 he1 ⊢
  unfold hEnds
  try walk_at "WP"
  intro tp htp
  have s2 := same_new htp (.tup [V.ref cst_Down, V.ref cst_NoJoin, V.ref cst_NoName, V.ref cst_NoRow, V.ref cst_NoText, V.ref cst_NoWeb, V.ref cst_NoWord])
  have htp1 : upd H2 tp (.tup [V.ref cst_Down, V.ref cst_NoJoin, V.ref cst_NoName, V.ref cst_NoRow, V.ref cst_NoText, V.ref cst_NoWeb, V.ref cst_NoWord]) tp = some (.tup [V.ref cst_Down, V.ref cst_NoJoin, V.ref cst_NoName, V.ref cst_NoRow, V.ref cst_NoText, V.ref cst_NoWeb, V.ref cst_NoWord]) := upd_same
  have he2 := s2 _ _ he1
  generalize upd H2 tp (.tup [V.ref cst_Down, V.ref cst_NoJoin, V.ref cst_NoName, V.ref cst_NoRow, V.ref cst_NoText, V.ref cst_NoWeb, V.ref cst_NoWord]) = H3 at s2 htp1 he2 ⊢
  refine ⟨e, cst_TooMany, _, false, rfl, he2, hek, .inr (.inr ⟨tp, [cst_Down, cst_NoJoin, cst_NoName, cst_NoRow, cst_NoText, cst_NoWeb, cst_NoWord], rfl, htp1, hot⟩), ?_⟩
  try walk_at "WP"
  refine ⟨e, cst_TooMany, _, true, rfl, he2, hek, .inl ⟨_, rfl, by unfold PySem.W.kitOne; rw [if_pos (by simp)]⟩, ?_⟩
  try walk_at "WP"
  refine ⟨e, cst_TooMany, _, true, rfl, he2, hek, .inr (.inl ⟨_, rfl, hve⟩), ?_⟩
  try walk_at "WP"
  exact q _ ((s0.trans s1).trans s2)
end

section
variable {P : Program} {w : World} {K : PySem.W.Frag} {mg : Str → Option Value} {base : Heap}
theorem ok_right9 (T : Txt K mg) : Cal P w K mg base 4 "_law_right" ["_law_found", "_law_number", "_law_places", "_law_due"] spRight9 := by
  have B := T.bl
  have C_l_least := ok_lleast (P := P) (w := w) (base := base) T
  have C_l_is_digits := (ok_isdig (P := P) (w := w) (base := base) T).mono (k := 3) (by decide)
  have C_l_sum := (ok_sum (P := P) (w := w) (base := base) T).mono (k := 3) (by decide)
  refine mkCal T.t_l_right sc_l_right (fun vs H Q E h => ?_) (fun f cdv A outer s H vs Q E hr h => ?_)
  · obtain ⟨_, _, _, _, rfl, _⟩ := h
    rfl
  obtain ⟨l, n, P0, us, rfl, hl, hx, hb, hp, h300, q⟩ := h
  have ul : (us.length : Int) = hmW P0 n := by rw [hx.len, wrs_len]
  refine ⟨_, ((@pss_cons _ _ _ _ _ (@ps_if _ _ _ _ _ _ _ _ (@PW.pt _ _ _ (@pw_or _ _ _ _ _ _ _ (@pt_not _ _ _ _ (@pt_val _ _ _ (@pe_callB _ _ _ _ _ _ _ _ _ call_isI rfl B.isinstance bo_isinstance (@pa_cons _ _ _ _ _ (pv 0) (@pa_cons _ _ _ _ _ (@pe_bltn _ _ (.ty "list") _ _ rfl B.list bo_list rfl (by decide) (by decide)) pa_nil (by rfl)) (by rfl)) (by decide) (by decide) (by rfl) (by rfl)) (by intro _ ; rfl))) (@pw_or1 _ _ _ _ (@pt_cmpR _ _ _ _ _ _ _ _ op_ne (@pe_callB _ _ _ _ _ _ _ _ _ call_lenM rfl B.len bo_len (@pa_cons _ _ _ _ _ (pv 0) pa_nil (by rfl)) (by decide) (by decide) (by rfl) (by rfl)) (pv 3) (@nomark _ _ (by decide) (by decide)))))) (@pss_one _ _ _ (@ps_ret _ _ _ _ pe_bl)) pss_nil) (@pss_cons _ _ _ _ _ (@ps_set _ _ (4) _ _ _ _ sc_l_right.nd rfl (by first | exact Or.inl rfl | exact Or.inr rfl) (@pe_cal _ _ _ _ _ _ _ _ _ _ C_l_least hr rfl (@pa_cons _ _ _ _ _ (pv 1) pa_nil (by rfl)) (by decide) (by rfl) (by rfl)) (by rfl) (by first | exact .inl rfl | exact .inr rfl | assumption)) (@pss_cons _ _ _ _ _ (@ps_for _ _ _ _ _ _ _ _ PassesOwn.never rfl (@pi_list _ _ _ _ (pv 0)) (@pg_name _ _ (5) _ sc_l_right.nd rfl (by first | exact Or.inl rfl | exact Or.inr rfl) (by first | exact .inl rfl | exact .inr rfl | assumption)) (@pss_cons _ _ _ _ _ (@ps_if _ _ _ _ _ _ _ _ (@PW.pt _ _ _ (@pw_or _ _ _ _ _ _ _ (@pt_not _ _ _ _ (@pt_val _ _ _ (@pe_cal _ _ _ _ _ _ _ _ _ _ C_l_is_digits hr rfl (@pa_cons _ _ _ _ _ (pv 5) pa_nil (by rfl)) (by decide) (by rfl) (by rfl)) (by intro _ ; rfl))) (@pw_or _ _ _ _ _ _ _ (@pt_cmpR _ _ _ _ _ _ _ _ op_ne (@pe_callB _ _ _ _ _ _ _ _ _ call_lenM rfl B.len bo_len (@pa_cons _ _ _ _ _ (pv 5) pa_nil (by rfl)) (by decide) (by decide) (by rfl) (by rfl)) (pv 2) (@nomark _ _ (by decide) (by decide))) (@pw_or1 _ _ _ _ (@pt_cmpR _ _ _ _ _ _ _ _ op_ne (@pe_cal _ _ _ _ _ _ _ _ _ _ C_l_sum hr rfl (@pa_cons _ _ _ _ _ (pv 5) pa_nil (by rfl)) (by decide) (by rfl) (by rfl)) (pv 1) (@nomark _ _ (by decide) (by decide))))))) (@pss_one _ _ _ (@ps_ret _ _ _ _ pe_bl)) pss_nil) (@pss_one _ _ _ (@ps_if _ _ _ _ _ _ _ _ (@pt_cmpR _ _ _ _ _ _ _ _ op_ne (@pe_callB _ _ _ _ _ _ _ _ _ call_lenM rfl B.len bo_len (@pa_cons _ _ _ _ _ (@pe_compC _ _ _ _ _ _ _ _ (["_law_digit"]) (1) ([]) _ _ _ rfl (@pi_list _ _ _ _ (pv 5)) (fun nd C s H fp => ⟨(@pg_name _ _ (0) _ nd rfl (by first | exact Or.inl rfl | exact Or.inr rfl) (by first | exact .inl rfl | exact .inr rfl | assumption)), (@pn_one _ _ _ (@pt_cmpR _ _ _ _ _ _ _ _ op_ne (pv 0) pe_int (@nomark _ _ (by decide) (by decide)))), (pv 0)⟩) (by decide +kernel) (by first | rfl | decide +kernel) (by first | rfl | decide +kernel) rfl (fun _ => rfl)) pa_nil (by rfl)) (by decide) (by decide) (by rfl) (by rfl)) (pv 4) (@nomark _ _ (by decide) (by decide))) (@pss_one _ _ _ (@ps_ret _ _ _ _ pe_bl)) pss_nil))) (by intro _ ; rfl)) (@pss_cons _ _ _ _ _ (@ps_for _ _ _ _ _ _ _ _ PassesOwn.never rfl (@pi_range2 _ _ _ _ _ _ _ rfl B.range (@pa_cons _ _ _ _ _ pe_int (@pa_cons _ _ _ _ _ (pv 3) pa_nil (by rfl)) (by rfl)) (by rfl) (by rfl)) (@pg_name _ _ (6) _ sc_l_right.nd rfl (by first | exact Or.inl rfl | exact Or.inr rfl) (by first | exact .inl rfl | exact .inr rfl | assumption)) (@pss_one _ _ _ (@ps_if _ _ _ _ _ _ _ _ (@pt_not _ _ _ _ (@pt_cmpR _ _ _ _ _ _ _ _ (@op_ltL _ _ hr) (@pe_ix _ _ _ _ _ _ _ ix_M (pv 0) (@pe_op _ _ _ _ _ _ _ _ op_sub (pv 6) pe_int) (fun _ _ => rfl)) (@pe_ix _ _ _ _ _ _ _ ix_M (pv 0) (pv 6) (fun _ _ => rfl)) (@nomark _ _ (by decide) (by decide)))) (@pss_one _ _ _ (@ps_ret _ _ _ _ pe_bl)) pss_nil)) (by intro _ ; rfl)) (@pss_one _ _ _ (@ps_ret _ _ _ _ pe_bl))))))), ?_⟩
  rw [show start ["_law_found", "_law_number", "_law_places", "_law_due", "_law_few", "_law_one", "_law_k"] [.ref l, .int n, .int P0, .int (hmW P0 n)] = [some (.ref l), some (.int n), some (.int P0), some (.int (hmW P0 n)), none, none, none] from rfl]
  try walk_at "WP"
  rw [isI_ll hl]
  (iterate 5 ((try (walk_at "WP")); (try (simp only [hl, Option.some.injEq, HO.tup.injEq, HO.lst.injEq, HO.dK.injEq, exists_eq_left', exists_eq_left])))); (try (walk_at "WP"))
  rw [if_neg (by omega)]
  refine ⟨n, rfl, big_of hb (by decide), fun H1 s1 => ?_⟩
  try walk_at "WP"
  refine ⟨⟨_, SqL.of (s1 _ _ hl)⟩, ?_⟩
  refine forL (xs := us) (fun i σ H' => ∃ o5 o6, σ = [some (.ref l), some (.int n), some (.int (P0 : Int)), some (.int (hmW P0 n)), some (.int (wt (naf n) : Int)), o5, o6] ∧ Same H1 H') ⟨_, _, rfl, Same.refl _⟩ ?_ ?_ ?_
  · rintro i σ H' _ ⟨_, _, _, s'⟩
    exact SqL.of ((s1.trans s') _ _ hl)
  · rintro i v σ H2 N hv ⟨o5, o6, rfl, s2⟩ hN
    have il : i < (wrs P0 n).length := by rw [← hx.len]; exact (List.getElem?_eq_some_iff.mp hv).1
    obtain ⟨p, e1, e2, _⟩ := hx.at_ i _ (List.getElem?_eq_getElem il)
    rw [hv] at e1
    cases e1
    have xm := List.getElem_mem il
    generalize (wrs P0 n)[i] = x at e2 xm
    obtain ⟨⟨xl, xd⟩, xv⟩ := wrs_ok _ _ _ xm
    have xw := wrs_wt _ _ _ xm
    have e3 := (s1.trans s2) _ _ e2
    try walk_at "WP"
    refine ⟨p, x, rfl, e3, by omega, xd, fun H3 s3 => ?_⟩
    have e4 := s3 _ _ e3
    (iterate 5 ((try (walk_at "WP")); (try (simp only [e4, Option.some.injEq, HO.tup.injEq, HO.lst.injEq, HO.dK.injEq, exists_eq_left', exists_eq_left])))); (try (walk_at "WP"))
    rw [List.length_map, xl]
    try walk_at "WP"
    refine ⟨p, x, rfl, e4, by omega, xd, ?_⟩
    rw [xv]
    try walk_at "WP"
    refine ⟨⟨_, SqL.of e4⟩, ?_⟩
    refine comp_L (f := fltV) (SqL.of e4) (by rw [List.length_map]; exact le_big (by omega)) (fun x H' R hx hS' hR => ?_) (fun w hw => ?_)
    · obtain ⟨d, hd, rfl⟩ := List.mem_map.mp hx
      try walk_at "WP"
      refine ite2 (fun c => ?_) (fun c => ?_)
      · rw [fltV_ne c] at hR
        exact hR
      · rw [Decidable.not_not.mp c] at hR
        exact hR
    rw [flt_len_map]
    refine abs_ hw fun H4 s4 h4 => ?_
    refine ⟨w, rfl, _, h4, ?_⟩
    rw [List.length_map]
    have ew : ((x.filter fun d => decide (d ≠ 0)).length : Int) = (wt (naf n) : Int) := by
      show (wt x : Int) = _
      rw [xw]
    rw [ew]
    try walk_at "WP"
    exact hN _ _ ⟨_, _, rfl, (s2.trans s3).trans s4⟩
  · rintro σ H2 ⟨o5, o6, rfl, s2⟩
    have s12 := s1.trans s2
    have hl2 := s12 _ _ hl
    have hx2 := hx.same s12
    try walk_at "WP"
    have h0 := hm_nonneg P0 n
    refine ⟨⟨by omega, by omega⟩, ?_⟩
    refine forR (fun i σ H' => ∃ o6, σ = [some (.ref l), some (.int n), some (.int (P0 : Int)), some (.int (hmW P0 n)), some (.int (wt (naf n) : Int)), o5, o6] ∧ H' = H2) ⟨_, rfl, rfl⟩ ?_ ?_
    · rintro i σ H3 N hi ⟨o6, rfl, rfl⟩ hN
      have i1 : i + 1 < (wrs P0 n).length := by rw [← hx.len]; omega
      have i0 : i < (wrs P0 n).length := by omega
      obtain ⟨p1, a1, a2, _⟩ := hx2.at_ i _ (List.getElem?_eq_getElem i0)
      obtain ⟨p2, b1, b2, _⟩ := hx2.at_ (i + 1) _ (List.getElem?_eq_getElem i1)
      obtain ⟨⟨xl, xd⟩, _⟩ := wrs_ok _ _ _ (List.getElem_mem i0)
      obtain ⟨⟨yl, yd⟩, _⟩ := wrs_ok _ _ _ (List.getElem_mem i1)
      have asc := List.pairwise_iff_getElem.mp (wrs_asc P0 n) i (i + 1) i0 i1 (by omega)
      have ne : (wrs P0 n)[i] ≠ (wrs P0 n)[i + 1] := fun z => by rw [z] at asc; omega
      have lx := (kyL_lex (xl.trans yl.symm) xd yd ne).1
      rw [decide_eq_true asc] at lx
      (iterate 5 ((try (walk_at "WP")); (try (simp only [hl2, Option.some.injEq, HO.tup.injEq, HO.lst.injEq, HO.dK.injEq, exists_eq_left', exists_eq_left])))); (try (walk_at "WP"))
      rw [show (1 : Int) + i - 1 = (i : Int) by omega, show (1 : Int) + i = ((i + 1 : Nat) : Int) by omega]
      refine ⟨_, atI_nat a1, _, atI_nat b1, p1, p2, _, _, rfl, rfl, a2, b2, xl.trans yl.symm, ne, ?_⟩
      rw [lx]
      try walk_at "WP"
      exact hN _ _ ⟨_, rfl, rfl⟩
    · rintro σ H3 ⟨o6, rfl, rfl⟩
      try walk_at "WP"
      exact q _ s12
end

section
variable {P : Program} {w : World} {K : PySem.W.Frag} {mg : Str → Option Value} {base : Heap}
theorem ok_listed (T : Txt K mg) {cst_TooMany : Addr} (X_writings0 : CalX P w K mg base 7 "writings" ["number", "places"] (spWritX cst_TooMany)) (C_tm : Cal P w K mg base 8 "_law_too_many" ["_law_number", "_law_places"] spTooM) : Cal P w K mg base 9 "_law_listed" ["_law_number", "_law_places"] spListed := by
  have B := T.bl
  have C_l_count := (ok_lcount (P := P) (w := w) (base := base) T).mono (k := 8) (by decide)
  have C_how_many := (ok_how (P := P) (w := w) (base := base) T).mono (k := 8) (by decide)
  have C_l_right := (ok_right9 (P := P) (w := w) (base := base) T).mono (k := 8) (by decide)
  have C_l_too_many := C_tm
  have C_writings := X_writings0.cal.mono (k := 8) (by decide)
  refine mkCal T.t_l_listed sc_l_listed (fun vs H Q E h => ?_) (fun f cdv A outer s H vs Q E hr h => ?_)
  · obtain ⟨_, _, rfl, _⟩ := h
    rfl
  obtain ⟨n, P0, rfl, hb, hp, q⟩ := h
  refine ⟨_, ((@pss_cons _ _ _ _ _ (@ps_set _ _ (2) _ _ _ _ sc_l_listed.nd rfl (by first | exact Or.inl rfl | exact Or.inr rfl) (@pe_cal _ _ _ _ _ _ _ _ _ _ C_l_count hr rfl (@pa_cons _ _ _ _ _ (pv 0) (@pa_cons _ _ _ _ _ (pv 1) pa_nil (by rfl)) (by rfl)) (by decide) (by rfl) (by rfl)) (by rfl) (by first | exact .inl rfl | exact .inr rfl | assumption)) (@pss_cons _ _ _ _ _ (@ps_if _ _ _ _ _ _ _ _ (@pt_cmpR _ _ _ _ _ _ _ _ op_gt (pv 2) pe_int (@nomark _ _ (by decide) (by decide))) (@pss_one _ _ _ (@ps_ret _ _ _ _ (@pe_cal _ _ _ _ _ _ _ _ _ _ C_l_too_many hr rfl (@pa_cons _ _ _ _ _ (pv 0) (@pa_cons _ _ _ _ _ (pv 1) pa_nil (by rfl)) (by rfl)) (by decide) (by rfl) (by rfl)))) pss_nil) (@pss_cons _ _ _ _ _ (@ps_set _ _ (3) _ _ _ _ sc_l_listed.nd rfl (by first | exact Or.inl rfl | exact Or.inr rfl) (@pe_cal _ _ _ _ _ _ _ _ _ _ C_writings hr rfl (@pa_cons _ _ _ _ _ (pv 0) (@pa_cons _ _ _ _ _ (pv 1) pa_nil (by rfl)) (by rfl)) (by decide) (by rfl) (by rfl)) (by rfl) (by first | exact .inl rfl | exact .inr rfl | assumption)) (@pss_cons _ _ _ _ _ (@ps_if _ _ _ _ _ _ _ _ (@pt_not _ _ _ _ (@pt_val _ _ _ (@pe_cal _ _ _ _ _ _ _ _ _ _ C_l_right hr rfl (@pa_cons _ _ _ _ _ (pv 3) (@pa_cons _ _ _ _ _ (pv 0) (@pa_cons _ _ _ _ _ (pv 1) (@pa_cons _ _ _ _ _ (pv 2) pa_nil (by rfl)) (by rfl)) (by rfl)) (by rfl)) (by decide) (by rfl) (by rfl)) (by intro _ ; rfl))) (@pss_one _ _ _ (@ps_ret _ _ _ _ pe_bl)) pss_nil) (@pss_cons _ _ _ _ _ (@ps_setCompC _ _ _ _ (4) _ _ _ _ _ _ _ (["_law_one"]) (1) ([]) _ _ _ rfl (@pi_list _ _ _ _ (pv 3)) (fun nd C s H fp => ⟨(@pg_name _ _ (0) _ nd rfl (by first | exact Or.inl rfl | exact Or.inr rfl) (by first | exact .inl rfl | exact .inr rfl | assumption)), pn_nil, (@pe_callTy _ _ _ _ _ _ _ _ _ (@call_listK _ K (by rfl)) rfl B.list bo_list (@pa_cons _ _ _ _ _ (pv 0) pa_nil (by rfl)) (by decide) (by decide) (by rfl) (by rfl))⟩) (by decide +kernel) (by first | rfl | decide +kernel) (by first | rfl | decide +kernel) rfl (fun _ => rfl) sc_l_listed.nd rfl (by first | exact Or.inl rfl | exact Or.inr rfl) (by first | exact .inl rfl | exact .inr rfl) rfl) (@pss_cons _ _ _ _ _ (@ps_for _ _ _ _ _ _ _ _ PassesOwn.never rfl (@pi_list _ _ _ _ (pv 3)) (@pg_name _ _ (5) _ sc_l_listed.nd rfl (by first | exact Or.inl rfl | exact Or.inr rfl) (by first | exact .inl rfl | exact .inr rfl | assumption)) (@pss_one _ _ _ (@ps_expr _ _ _ _ (@pe_bm _ _ _ _ _ _ _ _ _ _ _ _ PySem.F.plainAttrs_list PySem.F.slot_list_append PySem.F.type_list_append mt_append (pv 5) (@pa_cons _ _ _ _ _ pe_int pa_nil (by rfl)) (by rfl) (by rfl) (by rfl) (by rfl) (by rfl)) (by rfl))) (by intro _ ; rfl)) (@pss_cons _ _ _ _ _ (@ps_expr _ _ _ _ (@pe_bm _ _ _ _ _ _ _ _ _ _ _ _ PySem.F.plainAttrs_list PySem.F.slot_list_append PySem.F.type_list_append mt_append (pv 3) (@pa_cons _ _ _ _ _ (@pe_lst _ _ _ _ pa_nil) pa_nil (by rfl)) (by rfl) (by rfl) (by rfl) (by rfl) (by rfl)) (by rfl)) (@pss_one _ _ _ (@ps_ret _ _ _ _ (@pe_and _ _ _ _ _ _ _ (@pe_cmpR _ _ _ _ _ _ _ _ (@op_eqD _ _ hr) (@pe_cal _ _ _ _ _ _ _ _ _ _ C_writings hr rfl (@pa_cons _ _ _ _ _ (pv 0) (@pa_cons _ _ _ _ _ (pv 1) pa_nil (by rfl)) (by rfl)) (by decide) (by rfl) (by rfl)) (pv 4) (@nomark _ _ (by decide) (by decide))) (@pe_one _ _ _ _ _ (@pe_cmpR _ _ _ _ _ _ _ _ op_eq (@pe_cal _ _ _ _ _ _ _ _ _ _ C_how_many hr rfl (@pa_cons _ _ _ _ _ (pv 0) (@pa_cons _ _ _ _ _ (pv 1) pa_nil (by rfl)) (by rfl)) (by decide) (by rfl) (by rfl)) (pv 2) (@nomark _ _ (by decide) (by decide))))))))))))))), ?_⟩
  rw [show start ["_law_number", "_law_places", "_law_due", "_law_found", "_law_kept", "_law_one"] [.int n, .int P0] = [some (.int n), some (.int P0), none, none, none, none] from rfl]
  try walk_at "WP"
  refine ⟨n, P0, rfl, hb, hp, fun H1 s1 => ?_⟩
  try walk_at "WP"
  refine ite2 (fun z => ?_) (fun z => ?_)
  · exact ⟨n, P0, rfl, hb, hp, z, fun H2 s2 => q _ (s1.trans s2).noLst⟩
  have h300 : hmW P0 n ≤ 300 := by omega
  refine ⟨n, P0, rfl, hb, hp, fun y => absurd y z, fun _ l us H2 nl s2 hl hx => ?_⟩
  refine ⟨l, n, P0, us, rfl, hl, hx, hb, hp, h300, fun H3 s3 => ?_⟩
  try walk_at "WP"
  have hl3 := s3 _ _ hl
  have hx3 := hx.same s3
  have wl : ((wrs P0 n).length : Int) ≤ 300 := by rw [wrs_len]; exact h300
  refine ⟨⟨_, SqL.of hl3⟩, ?_⟩
  refine comp_cp hl3 hx3 (by omega) (fun p r H' R hr hp' s' hR => ?_) (fun acc ws H4 na s4 ha hc => ?_)
  · try walk_at "WP"
    exact ⟨_, .inl (SqL.of hp'), hR⟩
  try walk_at "WP"
  have hl4 := s4 _ _ hl3
  have hx4 := hx3.same s4
  have lself := HRs.self hl4 hx4
  refine ⟨⟨_, SqL.of hl4⟩, ?_⟩
  refine forL (xs := us) (fun i σ H' => ∃ o5, σ = [some (.int n), some (.int (P0 : Int)), some (.int (hmW P0 n)), some (.ref l), some (.ref acc), o5] ∧ (∀ b o, H4 b = some o → V.ref b ∉ us → H' b = some o) ∧ ∀ b, V.ref b ∈ us → ∃ xs, H' b = some (.lst xs) ∧ xs.length ≤ 1000 + i) ⟨_, rfl, fun b o e _ => e, fun b hb' => ?_⟩ ?_ ?_ ?_
  · obtain ⟨k, hk⟩ := List.getElem?_of_mem hb'
    have kl : k < (wrs P0 n).length := by rw [← hx4.len]; exact (List.getElem?_eq_some_iff.mp hk).1
    obtain ⟨p, e1, e2, _⟩ := hx4.at_ k _ (List.getElem?_eq_getElem kl)
    rw [hk] at e1
    cases e1
    exact ⟨_, e2, by rw [List.length_map, (wrs_ok _ _ _ (List.getElem_mem kl)).1.1]; omega⟩
  · rintro i σ H' _ ⟨_, _, k1, _⟩
    exact SqL.of (k1 _ _ hl4 lself)
  · rintro i v σ H5 N hv ⟨o5, rfl, k1, k2⟩ hN
    have vm := List.mem_of_getElem? hv
    have il := (List.getElem?_eq_some_iff.mp hv).1
    obtain ⟨b, rfl⟩ : ∃ b, v = .ref b := by
      have kl : i < (wrs P0 n).length := by rw [← hx4.len]; exact il
      obtain ⟨p, e1, _, _⟩ := hx4.at_ i _ (List.getElem?_eq_getElem kl)
      rw [hv] at e1
      cases e1
      exact ⟨p, rfl⟩
    obtain ⟨xs, e5, e6⟩ := k2 b vm
    have il' : i < 1000 := by have := hx4.len; omega
    (iterate 5 ((try (walk_at "WP")); (try (simp only [e5, Option.some.injEq, HO.tup.injEq, HO.lst.injEq, HO.dK.injEq, exists_eq_left', exists_eq_left])))); (try (walk_at "WP"))
    refine ⟨ty_list e5, lt_big (by omega), hN _ _ ⟨_, rfl, fun c o e nc => ?_, fun c hc' => ?_⟩⟩
    · rw [upd_ne (fun z => nc (by rw [z]; exact vm))]
      exact k1 c o e nc
    · by_cases z : c = b
      · subst z
        exact ⟨_, upd_same, by rw [List.length_append, List.length_singleton]; omega⟩
      · obtain ⟨ys, f1, f2⟩ := k2 c hc'
        exact ⟨ys, by rw [upd_ne z]; exact f1, by omega⟩
  · rintro σ H5 ⟨o5, rfl, k1, k2⟩
    have hl5 := k1 _ _ hl4 lself
    (iterate 5 ((try (walk_at "WP")); (try (simp only [hl5, Option.some.injEq, HO.tup.injEq, HO.lst.injEq, HO.dK.injEq, exists_eq_left', exists_eq_left])))); (try (walk_at "WP"))
    refine ⟨ty_list hl5, fun e0 ne0 => ?_⟩
    have lne : l ≠ e0 := ne_of_none hl5 ne0
    refine ⟨us, by rw [upd_ne lne]; exact hl5, lt_big (by have := hx4.len; omega), ?_⟩
    have C7 : Chg l (upd H5 e0 (.lst [])) (upd (upd H5 e0 (.lst [])) l (.lst (us ++ [V.ref e0]))) := Chg.upd _
    have s6 : Same H5 (upd H5 e0 (.lst [])) := same_new ne0 _
    have hl7 : (upd (upd H5 e0 (.lst [])) l (.lst (us ++ [V.ref e0]))) l = some (.lst (us ++ [V.ref e0])) := upd_same
    generalize upd (upd H5 e0 (.lst [])) l (.lst (us ++ [V.ref e0])) = H7 at C7 hl7 ⊢
    have fresh : ∀ b, H3 b = none → V.ref b ∉ us := fun b nb hm => by
      obtain ⟨k, hk⟩ := List.getElem?_of_mem hm
      have kl : k < (wrs P0 n).length := by rw [← hx3.len]; exact (List.getElem?_eq_some_iff.mp hk).1
      obtain ⟨p, e1, e2, _⟩ := hx3.at_ k _ (List.getElem?_eq_getElem kl)
      rw [hk] at e1
      cases e1
      rw [nb] at e2
      cases e2
    have keep7 : ∀ b o, H3 b = none → H4 b = some o → H7 b = some o := fun b o nb e => C7 _ _ (fun z => by rw [z, hl3] at nb; cases nb) (s6 _ _ (k1 _ _ e (fresh b nb)))
    have no7 : NoLst H4 H7 := fun b o e no => by
      have nb : V.ref b ∉ us := fun hm => by
        obtain ⟨k, hk⟩ := List.getElem?_of_mem hm
        have kl : k < (wrs P0 n).length := by rw [← hx4.len]; exact (List.getElem?_eq_some_iff.mp hk).1
        obtain ⟨p, e1, e2, _⟩ := hx4.at_ k _ (List.getElem?_eq_getElem kl)
        rw [hk] at e1
        cases e1
        rw [e] at e2
        exact no _ (Option.some.inj e2)
      refine C7 _ _ (fun z => ?_) (s6 _ _ (k1 _ _ e nb))
      rw [z, hl4] at e
      exact no _ (Option.some.inj e).symm
    have ha7 := keep7 _ _ na ha
    have hc7 : HRs H7 [] ws (wrs P0 n) := ⟨hc.len, fun k r e => by
      obtain ⟨p, f1, f2, f3⟩ := hc.at_ k r e
      exact ⟨p, f1, keep7 _ _ f2 f3, fun x hx => by cases hx⟩⟩
    refine ⟨n, P0, rfl, hb, hp, fun y => absurd y z, fun _ l8 us8 H8 nl8 s8 hl8 hx8 => ?_⟩
    refine eq_lr hl8 hx8 (s8 _ _ ha7) (hc7.same s8) ?_
    try walk_at "WP"
    refine ⟨n, P0, rfl, hb, hp, fun H9 s9 => ?_⟩
    try walk_at "WP"
    exact q _ ((((s1.trans (s2.trans (s3.trans s4))).noLst).trans no7).trans (s8.trans s9).noLst)
end

section
variable {P : Program} {w : World} {K : PySem.W.Frag} {mg : Str → Option Value} {base : Heap}
theorem ok_short (T : Txt K mg) : Cal P w K mg base 2 "_law_short" ["_law_pen_here"] (spShort K) := by
  have B := T.bl
  have C_l_draw := ok_draw (P := P) (w := w) (base := base) T
  refine mkCal T.t_l_short sc_l_short (fun vs H Q E h => ?_) (fun f cdv A outer s H vs Q E hr h => ?_)
  · obtain ⟨p, a, ns, c, rfl, _⟩ := h
    rfl
  obtain ⟨p, a, ns, c, rfl, hP, hS, h63, hc, q⟩ := h
  refine ⟨_, ((@pss_cons _ _ _ _ _ (@ps_set _ _ (1) _ _ _ _ sc_l_short.nd rfl (by first | exact Or.inl rfl | exact Or.inr rfl) (@pe_cal _ _ _ _ _ _ _ _ _ _ C_l_draw hr rfl (@pa_cons _ _ _ _ _ (pv 0) (@pa_cons _ _ _ _ _ pe_int pa_nil (by rfl)) (by rfl)) (by decide) (by rfl) (by rfl)) (by rfl) (by first | exact .inl rfl | exact .inr rfl | assumption)) (@pss_cons _ _ _ _ _ (@ps_set _ _ (2) _ _ _ _ sc_l_short.nd rfl (by first | exact Or.inl rfl | exact Or.inr rfl) (@pe_cal _ _ _ _ _ _ _ _ _ _ C_l_draw hr rfl (@pa_cons _ _ _ _ _ (pv 0) (@pa_cons _ _ _ _ _ pe_int pa_nil (by rfl)) (by rfl)) (by decide) (by rfl) (by rfl)) (by rfl) (by first | exact .inl rfl | exact .inr rfl | assumption)) (@pss_mid _ _ _ _ _ (@ps_if _ _ _ _ _ _ _ _ (@pt_cmpR _ _ _ _ _ _ _ _ op_eq (pv 1) pe_int (@nomark _ _ (by decide) (by decide))) (@pss_one _ _ _ (@ps_set _ _ (2) _ _ _ _ sc_l_short.nd rfl (by first | exact Or.inl rfl | exact Or.inr rfl) (@pe_op _ _ _ _ _ _ _ _ op_sub (@pe_op _ _ _ _ _ _ _ _ op_shlB pe_int (@pe_cal _ _ _ _ _ _ _ _ _ _ C_l_draw hr rfl (@pa_cons _ _ _ _ _ (pv 0) (@pa_cons _ _ _ _ _ pe_int pa_nil (by rfl)) (by rfl)) (by decide) (by rfl) (by rfl))) (@pe_op _ _ _ _ _ _ _ _ op_mod (pv 2) pe_int)) (by rfl) (by first | exact .inl rfl | exact .inr rfl | assumption))) pss_nil) (@pss_mid _ _ _ _ _ (@ps_if _ _ _ _ _ _ _ _ (@pt_cmpR _ _ _ _ _ _ _ _ op_eq (pv 1) pe_int (@nomark _ _ (by decide) (by decide))) (@pss_cons _ _ _ _ _ (@ps_set _ _ (2) _ _ _ _ sc_l_short.nd rfl (by first | exact Or.inl rfl | exact Or.inr rfl) pe_int (by rfl) (by first | exact .inl rfl | exact .inr rfl | assumption)) (@pss_one _ _ _ (@ps_for _ _ _ _ _ _ _ _ PassesOwn.never rfl (@pi_range1 _ _ _ _ _ _ rfl B.range (@pa_cons _ _ _ _ _ (@pe_op _ _ _ _ _ _ _ _ op_add pe_int (@pe_cal _ _ _ _ _ _ _ _ _ _ C_l_draw hr rfl (@pa_cons _ _ _ _ _ (pv 0) (@pa_cons _ _ _ _ _ pe_int pa_nil (by rfl)) (by rfl)) (by decide) (by rfl) (by rfl))) pa_nil (by rfl)) (by rfl)) (@pg_name _ _ (3) _ sc_l_short.nd rfl (by first | exact Or.inl rfl | exact Or.inr rfl) (by first | exact .inl rfl | exact .inr rfl | assumption)) (@pss_one _ _ _ (@ps_set _ _ (2) _ _ _ _ sc_l_short.nd rfl (by first | exact Or.inl rfl | exact Or.inr rfl) (@pe_op _ _ _ _ _ _ _ _ op_add (@pe_op _ _ _ _ _ _ _ _ op_mulB (pv 2) (@pe_op _ _ _ _ _ _ _ _ op_shlB pe_int (@pe_op _ _ _ _ _ _ _ _ op_add pe_int (@pe_cal _ _ _ _ _ _ _ _ _ _ C_l_draw hr rfl (@pa_cons _ _ _ _ _ (pv 0) (@pa_cons _ _ _ _ _ pe_int pa_nil (by rfl)) (by rfl)) (by decide) (by rfl) (by rfl))))) (@pe_ix _ _ _ _ _ _ _ ix_M (@pe_lst _ _ _ _ (@pa_cons _ _ _ _ _ pe_int (@pa_cons _ _ _ _ _ pe_int (@pa_cons _ _ _ _ _ pe_int (@pa_cons _ _ _ _ _ pe_int pa_nil (by rfl)) (by rfl)) (by rfl)) (by rfl))) (@pe_cal _ _ _ _ _ _ _ _ _ _ C_l_draw hr rfl (@pa_cons _ _ _ _ _ (pv 0) (@pa_cons _ _ _ _ _ pe_int pa_nil (by rfl)) (by rfl)) (by decide) (by rfl) (by rfl)) (fun _ _ => rfl))) (by rfl) (by first | exact .inl rfl | exact .inr rfl | assumption))) (by intro _ ; rfl)))) pss_nil) (@pss_mid _ _ _ _ _ (@ps_if _ _ _ _ _ _ _ _ (@pt_cmpR _ _ _ _ _ _ _ _ op_eq (pv 1) pe_int (@nomark _ _ (by decide) (by decide))) (@pss_one _ _ _ (@ps_set _ _ (2) _ _ _ _ sc_l_short.nd rfl (by first | exact Or.inl rfl | exact Or.inr rfl) (@pe_cal _ _ _ _ _ _ _ _ _ _ C_l_draw hr rfl (@pa_cons _ _ _ _ _ (pv 0) (@pa_cons _ _ _ _ _ (@pe_op _ _ _ _ _ _ _ _ op_powB pe_int pe_int) pa_nil (by rfl)) (by rfl)) (by decide) (by rfl) (by rfl)) (by rfl) (by first | exact .inl rfl | exact .inr rfl | assumption))) pss_nil) (@pss_one _ _ _ (@ps_ret _ _ _ _ (@pe_op _ _ _ _ _ _ _ _ op_mulB (pv 2) (@pe_op _ _ _ _ _ _ _ _ op_sub pe_int (@pe_op _ _ _ _ _ _ _ _ op_mulB pe_int (@pe_cal _ _ _ _ _ _ _ _ _ _ C_l_draw hr rfl (@pa_cons _ _ _ _ _ (pv 0) (@pa_cons _ _ _ _ _ pe_int pa_nil (by rfl)) (by rfl)) (by decide) (by rfl) (by rfl))))))))))))), ?_⟩
  rw [show start ["_law_pen_here", "_law_way", "_law_number", "_law_k"] [.ref p] = [some (.ref p), none, none, none] from rfl]
  try walk_at "WP"
  refine draw_ hP hS h63 (by omega) (by decide) (by decide) fun way H1 w0 w1 P1 S1 C1 => ?_
  refine draw_ P1 S1 h63 (by omega) (by decide) (by decide) fun nm H2 z0 z1 P2 S2 C2 => ?_
  have C2' := C1.trans C2
  refine mid_of (fun σ H4 => ∃ n : Int, σ = [some (.ref p), some (.int way), some (.int n), none] ∧ n.natAbs < 2 ^ 30 ∧ Pen H4 p a (c + 10) ∧ Scr K H4 a ns ∧ Chg p H H4) (fun N hN => ?_) ?_
  · try walk_at "WP"
    refine ite2 (fun z => ?_) (fun z => hN _ _ ⟨_, rfl, by omega, P2.mono (by omega), S2, C2'⟩)
    refine draw_ P2 S2 h63 (by omega) (by decide) (by decide) fun e H3 e0 e1 P3 S3 C3 => ?_
    try walk_at "WP"
    have b := shl1_b (e := e) (k := 24) (by omega)
    have b3 := modq (g := nm) (m := 3) (by omega)
    exact ⟨⟨by omega, by omega⟩, hN _ _ ⟨_, rfl, by omega, P3.mono (by omega), S3, C2'.trans C3⟩⟩
  rintro σ H4 ⟨n, rfl, hn, P4, S4, C4⟩
  refine mid_of (fun σ H4 => ∃ (n : Int) (o : Option V), σ = [some (.ref p), some (.int way), some (.int n), o] ∧ n.natAbs < 2 ^ 30 ∧ Pen H4 p a (c + 50) ∧ Scr K H4 a ns ∧ Chg p H H4) (fun N hN => ?_) ?_
  · try walk_at "WP"
    refine ite2 (fun z => ?_) (fun z => hN _ _ ⟨_, _, rfl, hn, P4.mono (by omega), S4, C4⟩)
    refine draw_ P4 S4 h63 (by omega) (by decide) (by decide) fun e H3 e0 e1 P3 S3 C3 => ?_
    try walk_at "WP"
    refine ⟨by omega, by omega, ?_⟩
    refine forR (fun i σ H' => ∃ (o : Option V) (n : Int), σ = [some (.ref p), some (.int way), some (.int n), o] ∧ 0 ≤ n ∧ n + 1 ≤ 16 ^ i ∧ Pen H' p a (c + 11 + 2 * i) ∧ Scr K H' a ns ∧ Chg p H H') ⟨none, 0, rfl, by decide, by decide, P3.mono (by omega), S3, C4.trans C3⟩ ?_ ?_
    · rintro i σ H' N' hi ⟨o, m, rfl, m0, m1, PP, SS, CC⟩ hN'
      try walk_at "WP"
      refine draw_ PP SS h63 (by omega) (by decide) (by decide) fun d H6 d0 d1 P6 S6 C6 => ?_
      try walk_at "WP"
      refine ⟨⟨by omega, by omega⟩, ?_⟩
      have d8 : (1 * (2 : Int) ^ (3 + d).toNat = 8) ∨ (1 * (2 : Int) ^ (3 + d).toNat = 16) := by
        rcases (show d = 0 ∨ d = 1 by omega) with z | z <;> subst z
        · exact .inl rfl
        · exact .inr rfl
      generalize 1 * (2 : Int) ^ (3 + d).toNat = M at d8 ⊢
      refine ⟨mul_r (by omega) (by omega), fun l1 n1 => ?_⟩
      have lp : l1 ≠ p := by
        obtain ⟨_, _, hpp, _⟩ := P6
        exact (ne_of_none hpp n1).symm
      have s7 := same_new n1 (.lst [V.int 3, V.int 5, V.int 11, V.int 3])
      refine draw_ (P6.same s7) (S6.same s7) h63 (by omega) (by decide) (by decide) fun j H8 j0 j1 P8 S8 C8 => ?_
      obtain ⟨v, v1, v2, v3⟩ := pk4 j0 j1
      refine ⟨l1, _, j, _, rfl, rfl, C8 _ _ lp upd_same, v1, ?_⟩
      try walk_at "WP"
      refine hN' _ _ ⟨_, _, rfl, ?_, ?_, P8.mono (by omega), S8, ((CC.trans C6).trans s7.chg).trans C8⟩
      · rcases d8 with z | z <;> subst z <;> omega
      · rw [Int.pow_succ]
        generalize (16 : Int) ^ i = t at m1 ⊢
        rcases d8 with z | z <;> subst z <;> omega
    · rintro σ H' ⟨o, m, rfl, m0, m1, PP, SS, CC⟩
      have b16 : (16 : Int) ^ (1 + e).toNat ≤ 16 ^ 5 := by
        rcases (show e = 0 ∨ e = 1 ∨ e = 2 ∨ e = 3 ∨ e = 4 by omega) with z | z | z | z | z <;> subst z <;> decide
      have b5 : (16 : Int) ^ 5 = 1048576 := by decide
      exact hN _ _ ⟨_, _, rfl, by omega, PP.mono (by omega), SS, CC⟩
  rintro σ H5 ⟨n, o, rfl, hn, P5, S5, C5⟩
  refine mid_of (fun σ H4 => ∃ (n : Int) (o : Option V), σ = [some (.ref p), some (.int way), some (.int n), o] ∧ n.natAbs < 2 ^ 30 ∧ Pen H4 p a (c + 60) ∧ Scr K H4 a ns ∧ Chg p H H4) (fun N hN => ?_) ?_
  · try walk_at "WP"
    refine ite2 (fun z => ?_) (fun z => hN _ _ ⟨_, _, rfl, hn, P5.mono (by omega), S5, C5⟩)
    exact draw_ P5 S5 h63 (by omega) (by decide) (by decide) fun e H3 e0 e1 P3 S3 C3 => hN _ _ ⟨_, _, rfl, by omega, P3.mono (by omega), S3, C5.trans C3⟩
  rintro σ H6 ⟨n, o, rfl, hn, P6, S6, C6⟩
  try walk_at "WP"
  refine draw_ P6 S6 h63 (by omega) (by decide) (by decide) fun e H3 e0 e1 P3 S3 C3 => ?_
  try walk_at "WP"
  refine ⟨mul_l (by decide) (by decide), mul_l (by omega) (by omega), q _ _ ?_ (P3.mono (by omega)) S3 (C6.trans C3)⟩
  rcases (show e = 0 ∨ e = 1 by omega) with z | z <;> subst z <;> omega
end

section
variable {P : Program} {w : World} {K : PySem.W.Frag} {mg : Str → Option Value} {base : Heap}
theorem ok_near (T : Txt K mg) : Cal P w K mg base 2 "_law_near" ["_law_pen_here"] (spNear K) := by
  have B := T.bl
  have C_l_draw := ok_draw (P := P) (w := w) (base := base) T
  refine mkCal T.t_l_near sc_l_near (fun vs H Q E h => ?_) (fun f cdv A outer s H vs Q E hr h => ?_)
  · obtain ⟨p, a, ns, c, rfl, _⟩ := h
    rfl
  obtain ⟨p, a, ns, c, rfl, hP, hS, h63, hc, q⟩ := h
  refine ⟨_, ((@pss_cons _ _ _ _ _ (@ps_set _ _ (1) _ _ _ _ sc_l_near.nd rfl (by first | exact Or.inl rfl | exact Or.inr rfl) pe_int (by rfl) (by first | exact .inl rfl | exact .inr rfl | assumption)) (@pss_cons _ _ _ _ _ (@ps_set _ _ (2) _ _ _ _ sc_l_near.nd rfl (by first | exact Or.inl rfl | exact Or.inr rfl) (@pe_lst _ _ _ _ (@pa_cons _ _ _ _ _ (@pe_op _ _ _ _ _ _ _ _ op_rep (@pe_lst _ _ _ _ (@pa_cons _ _ _ _ _ pe_int pa_nil (by rfl))) pe_int) (@pa_cons _ _ _ _ _ (@pe_op _ _ _ _ _ _ _ _ op_rep (@pe_lst _ _ _ _ (@pa_cons _ _ _ _ _ pe_int pa_nil (by rfl))) pe_int) (@pa_cons _ _ _ _ _ (@pe_lst _ _ _ _ (@pa_cons _ _ _ _ _ pe_int (@pa_cons _ _ _ _ _ pe_int (@pa_cons _ _ _ _ _ pe_int (@pa_cons _ _ _ _ _ pe_int (@pa_cons _ _ _ _ _ pe_int (@pa_cons _ _ _ _ _ pe_int (@pa_cons _ _ _ _ _ pe_int pa_nil (by rfl)) (by rfl)) (by rfl)) (by rfl)) (by rfl)) (by rfl)) (by rfl))) (@pa_cons _ _ _ _ _ (@pe_lst _ _ _ _ (@pa_cons _ _ _ _ _ pe_int (@pa_cons _ _ _ _ _ pe_int (@pa_cons _ _ _ _ _ pe_int (@pa_cons _ _ _ _ _ pe_int pa_nil (by rfl)) (by rfl)) (by rfl)) (by rfl))) (@pa_cons _ _ _ _ _ (@pe_lst _ _ _ _ (@pa_cons _ _ _ _ _ pe_int (@pa_cons _ _ _ _ _ pe_int pa_nil (by rfl)) (by rfl))) (@pa_cons _ _ _ _ _ (@pe_lst _ _ _ _ (@pa_cons _ _ _ _ _ pe_int (@pa_cons _ _ _ _ _ pe_int (@pa_cons _ _ _ _ _ pe_int (@pa_cons _ _ _ _ _ pe_int (@pa_cons _ _ _ _ _ pe_int (@pa_cons _ _ _ _ _ pe_int pa_nil (by rfl)) (by rfl)) (by rfl)) (by rfl)) (by rfl)) (by rfl))) pa_nil (by rfl)) (by rfl)) (by rfl)) (by rfl)) (by rfl)) (by rfl))) (by rfl) (by first | exact .inl rfl | exact .inr rfl | assumption)) (@pss_cons _ _ _ _ _ (@ps_set _ _ (2) _ _ _ _ sc_l_near.nd rfl (by first | exact Or.inl rfl | exact Or.inr rfl) (@pe_op _ _ _ _ _ _ _ _ op_cat (pv 2) (@pe_lst _ _ _ _ (@pa_cons _ _ _ _ _ (@pe_lst _ _ _ _ (@pa_cons _ _ _ _ _ pe_int (@pa_cons _ _ _ _ _ pe_int (@pa_cons _ _ _ _ _ pe_int (@pa_cons _ _ _ _ _ pe_int (@pa_cons _ _ _ _ _ pe_int pa_nil (by rfl)) (by rfl)) (by rfl)) (by rfl)) (by rfl))) (@pa_cons _ _ _ _ _ (@pe_lst _ _ _ _ (@pa_cons _ _ _ _ _ pe_int (@pa_cons _ _ _ _ _ pe_int (@pa_cons _ _ _ _ _ pe_int pa_nil (by rfl)) (by rfl)) (by rfl))) pa_nil (by rfl)) (by rfl)))) (by rfl) (by first | exact .inl rfl | exact .inr rfl | assumption)) (@pss_cons _ _ _ _ _ (@ps_for _ _ _ _ _ _ _ _ PassesOwn.never rfl (@pi_list _ _ _ _ (@pe_ix _ _ _ _ _ _ _ ix_M (pv 2) (@pe_cal _ _ _ _ _ _ _ _ _ _ C_l_draw hr rfl (@pa_cons _ _ _ _ _ (pv 0) (@pa_cons _ _ _ _ _ pe_int pa_nil (by rfl)) (by rfl)) (by decide) (by rfl) (by rfl)) (fun _ _ => rfl))) (@pg_name _ _ (3) _ sc_l_near.nd rfl (by first | exact Or.inl rfl | exact Or.inr rfl) (by first | exact .inl rfl | exact .inr rfl | assumption)) (@pss_one _ _ _ (@ps_set _ _ (1) _ _ _ _ sc_l_near.nd rfl (by first | exact Or.inl rfl | exact Or.inr rfl) (@pe_op _ _ _ _ _ _ _ _ op_add (@pe_op _ _ _ _ _ _ _ _ op_shlB (pv 1) (@pe_op _ _ _ _ _ _ _ _ op_add (@pe_op _ _ _ _ _ _ _ _ op_add (@pe_op _ _ _ _ _ _ _ _ op_mulB pe_int (pv 3)) pe_int) (@pe_cal _ _ _ _ _ _ _ _ _ _ C_l_draw hr rfl (@pa_cons _ _ _ _ _ (pv 0) (@pa_cons _ _ _ _ _ pe_int pa_nil (by rfl)) (by rfl)) (by decide) (by rfl) (by rfl)))) (@pe_op _ _ _ _ _ _ _ _ op_fdivB (@pe_op _ _ _ _ _ _ _ _ op_add (@pe_op _ _ _ _ _ _ _ _ op_mulB pe_int (@pe_op _ _ _ _ _ _ _ _ op_shlB pe_int (@pe_op _ _ _ _ _ _ _ _ op_mulB pe_int (pv 3)))) pe_int) pe_int)) (by rfl) (by first | exact .inl rfl | exact .inr rfl | assumption))) (by intro _ ; rfl)) (@pss_one _ _ _ (@ps_ret _ _ _ _ (@pe_op _ _ _ _ _ _ _ _ op_mulB (pv 1) (@pe_op _ _ _ _ _ _ _ _ op_sub pe_int (@pe_op _ _ _ _ _ _ _ _ op_mulB pe_int (@pe_cal _ _ _ _ _ _ _ _ _ _ C_l_draw hr rfl (@pa_cons _ _ _ _ _ (pv 0) (@pa_cons _ _ _ _ _ pe_int pa_nil (by rfl)) (by rfl)) (by decide) (by rfl) (by rfl)))))))))))), ?_⟩
  rw [show start ["_law_pen_here", "_law_number", "_law_some", "_law_k"] [.ref p] = [some (.ref p), none, none, none] from rfl]
  try walk_at "WP"
  intro r0 nr0
  refine abs_ nr0 fun G0 g0 h0 => ?_
  refine ⟨r0, 8, [.int 1], rfl, rfl, h0, by decide, by decide, by decide, fun r1 nr1 => ?_⟩
  refine abs_ nr1 fun G1 g1 h1 => ?_
  intro r2 nr2
  refine abs_ nr2 fun G2 g2 h2 => ?_
  refine ⟨r2, 9, [.int 1], rfl, rfl, h2, by decide, by decide, by decide, fun r3 nr3 => ?_⟩
  refine abs_ nr3 fun G3 g3 h3 => ?_
  intro l2 n2
  refine abs_ n2 fun G4 g4 h4 => ?_
  intro l3 n3
  refine abs_ n3 fun G5 g5 h5 => ?_
  intro l4 n4
  refine abs_ n4 fun G6 g6 h6 => ?_
  intro l5 n5
  refine abs_ n5 fun G7 g7 h7 => ?_
  intro ls nls
  refine abs_ nls fun G8 g8 h8 => ?_
  intro l6 n6
  refine abs_ n6 fun G9 g9 h9 => ?_
  intro l7 n7
  refine abs_ n7 fun G10 g10 h10 => ?_
  intro lt nlt
  refine abs_ nlt fun G11 g11 h11 => ?_
  have k8 := (g9.trans g10).trans g11
  refine ⟨_, k8 _ _ h8, le_big (by show 6 + 2 ≤ 100000; decide), ?_⟩
  intro lf nlf
  refine abs_ nlf fun G12 g12 h12 => ?_
  have S12 : Same H G12 := ((((((((((g0.trans g1).trans g2).trans g3).trans g4).trans g5).trans g6).trans g7).trans g8).trans k8).trans g12)
  have a1 := (g2.trans (g3.trans (g4.trans (g5.trans (g6.trans (g7.trans (g8.trans (k8.trans g12)))))))) _ _ h1
  have a3 := (g4.trans (g5.trans (g6.trans (g7.trans (g8.trans (k8.trans g12)))))) _ _ h3
  have a4 := (g5.trans (g6.trans (g7.trans (g8.trans (k8.trans g12))))) _ _ h4
  have a5 := (g6.trans (g7.trans (g8.trans (k8.trans g12)))) _ _ h5
  have a6 := (g7.trans (g8.trans (k8.trans g12))) _ _ h6
  have a7 := (g8.trans (k8.trans g12)) _ _ h7
  have a9 := (g10.trans (g11.trans g12)) _ _ h9
  have a10 := (g11.trans g12) _ _ h10
  have pick : ∀ d : Int, 0 ≤ d → d < 8 → ∃ (x : Addr) (ks : List Int), atI ([V.ref r1, V.ref r3, V.ref l2, V.ref l3, V.ref l4, V.ref l5] ++ [V.ref l6, V.ref l7]) d = some (.ref x) ∧ G12 x = some (.lst (ks.map V.int)) ∧ ks.length ≤ 9 ∧ ∀ k ∈ ks, 1 ≤ k ∧ k ≤ 42 := fun d d0 d1 => by
    rcases (show d = 0 ∨ d = 1 ∨ d = 2 ∨ d = 3 ∨ d = 4 ∨ d = 5 ∨ d = 6 ∨ d = 7 by omega) with e | e | e | e | e | e | e | e <;> subst e
    · exact ⟨_, [1, 1, 1, 1, 1, 1, 1, 1], rfl, a1, by decide, by decide⟩
    · exact ⟨_, [1, 1, 1, 1, 1, 1, 1, 1, 1], rfl, a3, by decide, by decide⟩
    · exact ⟨_, [1, 1, 1, 1, 1, 2, 2], rfl, a4, by decide, by decide⟩
    · exact ⟨_, [4, 4, 3, 2], rfl, a5, by decide, by decide⟩
    · exact ⟨_, [6, 42], rfl, a6, by decide, by decide⟩
    · exact ⟨_, [2, 2, 2, 2, 1, 1], rfl, a7, by decide, by decide⟩
    · exact ⟨_, [1, 1, 2, 4, 4], rfl, a9, by decide, by decide⟩
    · exact ⟨_, [4, 4, 11], rfl, a10, by decide, by decide⟩
  have P12 := hP.same S12
  have pne : ∀ b xs, G12 b = some (.lst xs) → b ≠ p := fun b xs e => by
    obtain ⟨_, _, hpp, _⟩ := P12
    exact ne_of e hpp (by intro z; cases z)
  refine draw_ P12 (hS.same S12) h63 (by omega) (by decide) (by decide) fun d H1 d0 d1 P1 S1 C1 => ?_
  obtain ⟨x, ks, e1, e2, e3, e4⟩ := pick d d0 d1
  have e5 := C1 _ _ (pne _ _ e2) e2
  refine ⟨lf, _, d, _, rfl, rfl, C1 _ _ (pne _ _ h12) h12, e1, ?_⟩
  refine ⟨x, rfl, ⟨_, SqL.of e5⟩, ?_⟩
  refine forL (xs := ks.map V.int) (fun i σ H' => ∃ (n : Int) (o : Option V), σ = [some (.ref p), some (.int n), some (.ref lf), o] ∧ 0 ≤ n ∧ n + 1 ≤ 2 ^ (89 * i) ∧ Pen H' p a (c + 1 + i) ∧ Scr K H' a ns ∧ Chg p H H' ∧ Chg p H1 H') ⟨_, _, rfl, by decide, by decide, P1.mono (by omega), S1, S12.chg.trans C1, Chg.refl⟩ ?_ ?_ ?_
  · rintro i σ H' _ ⟨_, _, _, _, _, _, _, _, CC⟩
    exact SqL.of (CC _ _ (pne _ _ e2) e5)
  · rintro i v σ H2 N hv ⟨n, o, rfl, n0, n1, P2, S2, C2, CC⟩ hN
    obtain ⟨k, hk, rfl⟩ := map_at hv
    have hk' := e4 k (List.mem_of_getElem? hk)
    have il : i < 9 := by
      have := (List.getElem?_eq_some_iff.mp hk).1
      omega
    try walk_at "WP"
    refine ⟨mul_l (by decide) (by decide), ?_⟩
    refine draw_ P2 S2 h63 (by omega) (by decide) (by decide) fun g H3 g0 g1 P3 S3 C3 => ?_
    try walk_at "WP"
    have st := near_step n0 n1 hk'.1 hk'.2 g0 g1
    refine ⟨shl_ok (by omega) (by omega) (abs_lt n0 n1 (k := 801) (by omega)) (by decide), mul_l (by decide) (by decide), ⟨by omega, by omega⟩, mul_l (by decide) (by decide), divB (by decide) (by decide), hN _ _ ⟨_, _, rfl, st.1, st.2, P3.mono (by omega), S3, C2.trans C3, CC.trans C3⟩⟩
  · rintro σ H2 ⟨n, o, rfl, n0, n1, P2, S2, C2, CC⟩
    try walk_at "WP"
    refine draw_ P2 S2 h63 (by rw [List.length_map]; omega) (by decide) (by decide) fun g H3 g0 g1 P3 S3 C3 => ?_
    try walk_at "WP"
    rw [List.length_map] at n1 P2
    have nb := abs_lt n0 n1 (k := 801) (by omega)
    have nb' := big_of nb (show 801 ≤ 900 by decide)
    refine ⟨mul_l (by decide) (by decide), mul_r (by omega) (by omega), q _ _ ?_ (P3.mono (by rw [List.length_map]; omega)) S3 (C2.trans C3)⟩
    rcases (show g = 0 ∨ g = 1 by omega) with z | z <;> subst z
    · rw [show n * (1 - 2 * 0) = n by omega]
      exact nb'
    · rw [show n * (1 - 2 * 1) = -n by omega, Int.natAbs_neg]
      exact nb'
end

section
variable {P : Program} {w : World} {K : PySem.W.Frag} {mg : Str → Option Value} {base : Heap}
theorem ok_law (T : Txt K mg) {f : Addr} {fd : FuncData} (F : Fun K "law" "law" s_law f fd) : FnOk P w K mg base CX0 20 f fd ["_law_script"] (spLaw K) := by
  have B := T.bl
  obtain ⟨cst_ShiftError, cst_NoWeb, cst_Down, cst_NoText, cst_NoJoin, cst_TooMany, cst_NoRow, cst_NoName, cst_NoWord, mg_ShiftError, mg_NoWeb, mg_Down, mg_NoText, mg_NoJoin, mg_TooMany, mg_NoRow, mg_NoName, mg_NoWord, xi_TooMany, xi_ShiftError, hsub, hek, hve, hot⟩ := T.cls
  have X_w := okx_writ (P := P) (w := w) (base := base) T mg_TooMany xi_TooMany
  have C_tm := ok_toom (P := P) (w := w) (base := base) T mg_NoJoin mg_ShiftError mg_Down mg_NoName mg_NoRow mg_NoText mg_NoWeb mg_NoWord mg_TooMany xi_TooMany xi_ShiftError hsub hek hve hot X_w
  have C_l_listed := (ok_listed (P := P) (w := w) (base := base) T X_w C_tm).mono (k := 19) (by decide)
  have C_l_too_many := C_tm.mono (k := 19) (by decide)
  have C_writings := X_w.cal.mono (k := 19) (by decide)
  have C_l_pen := (ok_pen (P := P) (w := w) (base := base) T).mono (k := 19) (by decide)
  have C_l_draw := (ok_draw (P := P) (w := w) (base := base) T).mono (k := 19) (by decide)
  have C_l_short := (ok_short (P := P) (w := w) (base := base) T).mono (k := 19) (by decide)
  have C_l_near := (ok_near (P := P) (w := w) (base := base) T).mono (k := 19) (by decide)
  have C_l_signs := (ok_lsigns (P := P) (w := w) (base := base) T).mono (k := 19) (by decide)
  have C_how_many := (ok_how (P := P) (w := w) (base := base) T).mono (k := 19) (by decide)
  have C_l_count := (ok_lcount (P := P) (w := w) (base := base) T).mono (k := 19) (by decide)
  refine F.ok sc_law (fun vs H Q E h => ?_) (fun cdv A outer s H vs Q E hr h => ?_)
  · obtain ⟨a, ns, rfl, _⟩ := h
    rfl
  obtain ⟨a, ns, rfl, hS, h63, q⟩ := h
  refine ⟨_, ((@pss_cons _ _ _ _ _ (@ps_set _ _ (1) _ _ _ _ sc_law.nd rfl (by first | exact Or.inl rfl | exact Or.inr rfl) (@pe_cal _ _ _ _ _ _ _ _ _ _ C_l_pen hr rfl (@pa_cons _ _ _ _ _ (pv 0) pa_nil (by rfl)) (by decide) (by rfl) (by rfl)) (by rfl) (by first | exact .inl rfl | exact .inr rfl | assumption)) (@pss_cons _ _ _ _ _ (@ps_for _ _ _ _ _ _ _ _ PassesOwn.never rfl (@pi_range1 _ _ _ _ _ _ rfl B.range (@pa_cons _ _ _ _ _ pe_int pa_nil (by rfl)) (by rfl)) (@pg_name _ _ (2) _ sc_law.nd rfl (by first | exact Or.inl rfl | exact Or.inr rfl) (by first | exact .inl rfl | exact .inr rfl | assumption)) (@pss_cons _ _ _ _ _ (@ps_set _ _ (3) _ _ _ _ sc_law.nd rfl (by first | exact Or.inl rfl | exact Or.inr rfl) (@pe_cal _ _ _ _ _ _ _ _ _ _ C_l_short hr rfl (@pa_cons _ _ _ _ _ (pv 1) pa_nil (by rfl)) (by decide) (by rfl) (by rfl)) (by rfl) (by first | exact .inl rfl | exact .inr rfl | assumption)) (@pss_cons _ _ _ _ _ (@ps_set _ _ (4) _ _ _ _ sc_law.nd rfl (by first | exact Or.inl rfl | exact Or.inr rfl) (@pe_callB _ _ _ _ _ _ _ _ _ call_lenM rfl B.len bo_len (@pa_cons _ _ _ _ _ (@pe_cal _ _ _ _ _ _ _ _ _ _ C_l_signs hr rfl (@pa_cons _ _ _ _ _ (pv 3) pa_nil (by rfl)) (by decide) (by rfl) (by rfl)) pa_nil (by rfl)) (by decide) (by decide) (by rfl) (by rfl)) (by rfl) (by first | exact .inl rfl | exact .inr rfl | assumption)) (@pss_cons _ _ _ _ _ (@ps_set _ _ (5) _ _ _ _ sc_law.nd rfl (by first | exact Or.inl rfl | exact Or.inr rfl) (@pe_ix _ _ _ _ _ _ _ ix_M (@pe_lst _ _ _ _ (@pa_cons _ _ _ _ _ (pv 4) (@pa_cons _ _ _ _ _ (@pe_op _ _ _ _ _ _ _ _ op_add (pv 4) pe_int) (@pa_cons _ _ _ _ _ (@pe_callB _ _ _ _ _ _ _ _ _ (@call_max2 _ rfl) rfl B.max bo_max (@pa_cons _ _ _ _ _ pe_int (@pa_cons _ _ _ _ _ (@pe_op _ _ _ _ _ _ _ _ op_sub (pv 4) pe_int) pa_nil (by rfl)) (by rfl)) (by decide) (by decide) (by rfl) (by rfl)) (@pa_cons _ _ _ _ _ (@pe_callB _ _ _ _ _ _ _ _ _ (@call_min2 _ rfl) rfl B.min bo_min (@pa_cons _ _ _ _ _ pe_int (@pa_cons _ _ _ _ _ (@pe_op _ _ _ _ _ _ _ _ op_add (pv 4) (@pe_cal _ _ _ _ _ _ _ _ _ _ C_l_draw hr rfl (@pa_cons _ _ _ _ _ (pv 1) (@pa_cons _ _ _ _ _ pe_int pa_nil (by rfl)) (by rfl)) (by decide) (by rfl) (by rfl))) pa_nil (by rfl)) (by rfl)) (by decide) (by decide) (by rfl) (by rfl)) (@pa_cons _ _ _ _ _ pe_int pa_nil (by rfl)) (by rfl)) (by rfl)) (by rfl)) (by rfl))) (@pe_cal _ _ _ _ _ _ _ _ _ _ C_l_draw hr rfl (@pa_cons _ _ _ _ _ (pv 1) (@pa_cons _ _ _ _ _ pe_int pa_nil (by rfl)) (by rfl)) (by decide) (by rfl) (by rfl)) (fun _ _ => rfl)) (by rfl) (by first | exact .inl rfl | exact .inr rfl | assumption)) (@pss_one _ _ _ (@ps_if _ _ _ _ _ _ _ _ (@pt_not _ _ _ _ (@pt_val _ _ _ (@pe_cal _ _ _ _ _ _ _ _ _ _ C_l_listed hr rfl (@pa_cons _ _ _ _ _ (pv 3) (@pa_cons _ _ _ _ _ (pv 5) pa_nil (by rfl)) (by rfl)) (by decide) (by rfl) (by rfl)) (by intro _ ; rfl))) (@pss_one _ _ _ (@ps_ret _ _ _ _ pe_bl)) pss_nil))))) (by intro _ ; rfl)) (@pss_cons _ _ _ _ _ (@ps_set _ _ (3) _ _ _ _ sc_law.nd rfl (by first | exact Or.inl rfl | exact Or.inr rfl) (@pe_cal _ _ _ _ _ _ _ _ _ _ C_l_near hr rfl (@pa_cons _ _ _ _ _ (pv 1) pa_nil (by rfl)) (by decide) (by rfl) (by rfl)) (by rfl) (by first | exact .inl rfl | exact .inr rfl | assumption)) (@pss_cons _ _ _ _ _ (@ps_if _ _ _ _ _ _ _ _ (@pt_not _ _ _ _ (@pt_val _ _ _ (@pe_cal _ _ _ _ _ _ _ _ _ _ C_l_listed hr rfl (@pa_cons _ _ _ _ _ (pv 3) (@pa_cons _ _ _ _ _ (@pe_op _ _ _ _ _ _ _ _ op_add (@pe_callB _ _ _ _ _ _ _ _ _ call_lenM rfl B.len bo_len (@pa_cons _ _ _ _ _ (@pe_cal _ _ _ _ _ _ _ _ _ _ C_l_signs hr rfl (@pa_cons _ _ _ _ _ (pv 3) pa_nil (by rfl)) (by decide) (by rfl) (by rfl)) pa_nil (by rfl)) (by decide) (by decide) (by rfl) (by rfl)) (@pe_cal _ _ _ _ _ _ _ _ _ _ C_l_draw hr rfl (@pa_cons _ _ _ _ _ (pv 1) (@pa_cons _ _ _ _ _ pe_int pa_nil (by rfl)) (by rfl)) (by decide) (by rfl) (by rfl))) pa_nil (by rfl)) (by rfl)) (by decide) (by rfl) (by rfl)) (by intro _ ; rfl))) (@pss_one _ _ _ (@ps_ret _ _ _ _ pe_bl)) pss_nil) (@pss_cons _ _ _ _ _ (@ps_set _ _ (4) _ _ _ _ sc_law.nd rfl (by first | exact Or.inl rfl | exact Or.inr rfl) (@pe_op _ _ _ _ _ _ _ _ op_mulB pe_int (@pe_op _ _ _ _ _ _ _ _ op_add pe_int (@pe_cal _ _ _ _ _ _ _ _ _ _ C_l_draw hr rfl (@pa_cons _ _ _ _ _ (pv 1) (@pa_cons _ _ _ _ _ pe_int pa_nil (by rfl)) (by rfl)) (by decide) (by rfl) (by rfl)))) (by rfl) (by first | exact .inl rfl | exact .inr rfl | assumption)) (@pss_cons _ _ _ _ _ (@ps_set _ _ (6) _ _ _ _ sc_law.nd rfl (by first | exact Or.inl rfl | exact Or.inr rfl) (@pe_op _ _ _ _ _ _ _ _ op_mulB (@pe_op _ _ _ _ _ _ _ _ op_shlB (@pe_cal _ _ _ _ _ _ _ _ _ _ C_l_draw hr rfl (@pa_cons _ _ _ _ _ (pv 1) (@pa_cons _ _ _ _ _ pe_int pa_nil (by rfl)) (by rfl)) (by decide) (by rfl) (by rfl)) (@pe_cal _ _ _ _ _ _ _ _ _ _ C_l_draw hr rfl (@pa_cons _ _ _ _ _ (pv 1) (@pa_cons _ _ _ _ _ pe_int pa_nil (by rfl)) (by rfl)) (by decide) (by rfl) (by rfl))) (@pe_op _ _ _ _ _ _ _ _ op_sub pe_int (@pe_op _ _ _ _ _ _ _ _ op_mulB pe_int (@pe_cal _ _ _ _ _ _ _ _ _ _ C_l_draw hr rfl (@pa_cons _ _ _ _ _ (pv 1) (@pa_cons _ _ _ _ _ pe_int pa_nil (by rfl)) (by rfl)) (by decide) (by rfl) (by rfl))))) (by rfl) (by first | exact .inl rfl | exact .inr rfl | assumption)) (@pss_cons _ _ _ _ _ (@ps_if _ _ _ _ _ _ _ _ (@pt_not _ _ _ _ (@pt_val _ _ _ (@pe_cal _ _ _ _ _ _ _ _ _ _ C_l_listed hr rfl (@pa_cons _ _ _ _ _ (pv 6) (@pa_cons _ _ _ _ _ pe_int pa_nil (by rfl)) (by rfl)) (by decide) (by rfl) (by rfl)) (by intro _ ; rfl))) (@pss_one _ _ _ (@ps_ret _ _ _ _ pe_bl)) pss_nil) (@pss_cons _ _ _ _ _ (@ps_set _ _ (3) _ _ _ _ sc_law.nd rfl (by first | exact Or.inl rfl | exact Or.inr rfl) (@pe_op _ _ _ _ _ _ _ _ op_mulB (@pe_op _ _ _ _ _ _ _ _ op_fdivB (@pe_op _ _ _ _ _ _ _ _ op_sub (@pe_op _ _ _ _ _ _ _ _ op_shlB pe_int (pv 4)) pe_int) pe_int) pe_int) (by rfl) (by first | exact .inl rfl | exact .inr rfl | assumption)) (@pss_cons _ _ _ _ _ (@ps_if _ _ _ _ _ _ _ _ (@PW.pt _ _ _ (@pw_or _ _ _ _ _ _ _ (@pt_cmpR _ _ _ _ _ _ _ _ op_ne (@pe_cal _ _ _ _ _ _ _ _ _ _ C_how_many hr rfl (@pa_cons _ _ _ _ _ (pv 3) (@pa_cons _ _ _ _ _ (@pe_op _ _ _ _ _ _ _ _ op_add (pv 4) pe_int) pa_nil (by rfl)) (by rfl)) (by decide) (by rfl) (by rfl)) (@pe_cal _ _ _ _ _ _ _ _ _ _ C_l_count hr rfl (@pa_cons _ _ _ _ _ (pv 3) (@pa_cons _ _ _ _ _ (@pe_op _ _ _ _ _ _ _ _ op_add (pv 4) pe_int) pa_nil (by rfl)) (by rfl)) (by decide) (by rfl) (by rfl)) (@nomark _ _ (by decide) (by decide))) (@pw_or1 _ _ _ _ (@pt_not _ _ _ _ (@pt_val _ _ _ (@pe_cal _ _ _ _ _ _ _ _ _ _ C_l_too_many hr rfl (@pa_cons _ _ _ _ _ (pv 3) (@pa_cons _ _ _ _ _ (@pe_op _ _ _ _ _ _ _ _ op_add (pv 4) pe_int) pa_nil (by rfl)) (by rfl)) (by decide) (by rfl) (by rfl)) (by intro _ ; rfl)))))) (@pss_one _ _ _ (@ps_ret _ _ _ _ pe_bl)) pss_nil) (@pss_one _ _ _ (@ps_ret _ _ _ _ (@pe_and _ _ _ _ _ _ _ (@pe_cmpR _ _ _ _ _ _ _ _ (@op_eqD _ _ hr) (@pe_cal _ _ _ _ _ _ _ _ _ _ C_writings hr rfl (@pa_cons _ _ _ _ _ pe_int (@pa_cons _ _ _ _ _ pe_int pa_nil (by rfl)) (by rfl)) (by decide) (by rfl) (by rfl)) (@pe_lst _ _ _ _ (@pa_cons _ _ _ _ _ (@pe_lst _ _ _ _ (@pa_cons _ _ _ _ _ pe_int (@pa_cons _ _ _ _ _ pe_int (@pa_cons _ _ _ _ _ pe_int pa_nil (by rfl)) (by rfl)) (by rfl))) pa_nil (by rfl))) (@nomark _ _ (by decide) (by decide))) (@pe_and _ _ _ _ _ _ _ (@pe_cmpR _ _ _ _ _ _ _ _ (@op_eqD _ _ hr) (@pe_cal _ _ _ _ _ _ _ _ _ _ C_writings hr rfl (@pa_cons _ _ _ _ _ pe_int (@pa_cons _ _ _ _ _ pe_int pa_nil (by rfl)) (by rfl)) (by decide) (by rfl) (by rfl)) (@pe_lst _ _ _ _ (@pa_cons _ _ _ _ _ (@pe_lst _ _ _ _ pa_nil) pa_nil (by rfl))) (@nomark _ _ (by decide) (by decide))) (@pe_one _ _ _ _ _ (@pe_cmpR _ _ _ _ _ _ _ _ (@op_eqD _ _ hr) (@pe_cal _ _ _ _ _ _ _ _ _ _ C_writings hr rfl (@pa_cons _ _ _ _ _ pe_int (@pa_cons _ _ _ _ _ pe_int pa_nil (by rfl)) (by rfl)) (by decide) (by rfl) (by rfl)) (@pe_lst _ _ _ _ pa_nil) (@nomark _ _ (by decide) (by decide)))))))))))))))))), ?_⟩
  rw [show start ["_law_script", "_law_pen_here", "_law_turn", "_law_number", "_law_size", "_law_places", "_law_few"] [.ref a] = [some (.ref a), none, none, none, none, none, none] from rfl]
  refine seq_in fun R_ hR_ => ?_
  (try (walk_at "WP")); (try (refine seq_out hR_ ?_)); (try (refine seq_in fun R_ hR_ => ?_)); (try (walk_at "WP"))
  refine ⟨a, rfl, fun p H1 hp sm1 P1 => ?_⟩
  (try (walk_at "WP")); (try (refine seq_out hR_ ?_)); (try (refine seq_in fun R_ hR_ => ?_)); (try (walk_at "WP"))
  refine forR (fun i σ H' => ∃ o2 o3 o4 o5 o6, σ = [some (.ref a), some (.ref p), o2, o3, o4, o5, o6] ∧ Pen H' p a (200 * i) ∧ Scr K H' a ns) ⟨_, _, _, _, _, rfl, P1.mono (by simp), hS.same sm1⟩ ?_ ?_
  · rintro i σ H2 N hi ⟨o2, o3, o4, o5, o6, rfl, PP, SS⟩ hN
    refine seq_inG fun R_ hR_ => ?_
    (try (walk_at "WP")); (try (refine seq_out hR_ ?_)); (try (refine seq_in fun R_ hR_ => ?_)); (try (walk_at "WP"))
    refine ⟨p, a, ns, _, rfl, PP, SS, h63, by omega, fun n H3 hn P3 S3 C3 => ?_⟩
    (try (walk_at "WP")); (try (refine seq_out hR_ ?_)); (try (refine seq_in fun R_ hR_ => ?_)); (try (walk_at "WP"))
    refine ⟨n, rfl, big_of hn (by decide), fun r H4 nr s4 h4 => ?_⟩
    have nl := naf_len 40 n hn
    (try (walk_at "WP")); (try (refine seq_out hR_ ?_)); (try (refine seq_in fun R_ hR_ => ?_)); (iterate 5 ((try (walk_at "WP")); (try (simp only [h4, Option.some.injEq, HO.tup.injEq, HO.lst.injEq, HO.dK.injEq, exists_eq_left', exists_eq_left])))); (try (walk_at "WP"))
    rw [List.length_map]
    generalize (naf n).length = L at nl
    (try (walk_at "WP")); (try (refine seq_out hR_ ?_)); (try (refine seq_in fun R_ hR_ => ?_)); (try (walk_at "WP"))
    refine ⟨0, _, ⟨rfl, rfl⟩, ?_⟩
    refine draw_ (P3.same s4) (S3.same s4) h63 (by omega) (by decide) (by decide) fun d H5 d0 d1 P5 S5 C5 => ?_
    (try (walk_at "WP")); (try (refine seq_out hR_ ?_)); (try (refine seq_in fun R_ hR_ => ?_)); (try (walk_at "WP"))
    refine ⟨28, _, ⟨rfl, rfl⟩, ?_⟩
    intro ll nll
    have lp : ll ≠ p := by
      obtain ⟨_, _, hpp, _⟩ := P5
      exact (ne_of_none hpp nll).symm
    refine abs_ nll fun H6 s6 h6 => ?_
    refine draw_ (P5.same s6) (S5.same s6) h63 (by omega) (by decide) (by decide) fun g H7 g0 g1 P7 S7 C7 => ?_
    have h7 := C7 _ _ lp h6
    have pick : ∃ P0 : Nat, atI [V.int (L : Int), V.int ((L : Int) + 1), V.int (if (L : Int) - 1 > 0 then (L : Int) - 1 else 0), V.int (if (L : Int) + d < 28 then (L : Int) + d else 28), V.int 0] g = some (.int (P0 : Int)) ∧ P0 ≤ 100 := by
      rcases (show g = 0 ∨ g = 1 ∨ g = 2 ∨ g = 3 ∨ g = 4 by omega) with e | e | e | e | e <;> subst e
      · exact ⟨L, rfl, by omega⟩
      · exact ⟨L + 1, rfl, by omega⟩
      · refine ⟨(if (L : Int) - 1 > 0 then (L : Int) - 1 else 0).toNat, ?_, ?_⟩
        · rw [Int.toNat_of_nonneg (by split <;> omega)]
          rfl
        · split <;> omega
      · refine ⟨(if (L : Int) + d < 28 then (L : Int) + d else 28).toNat, ?_, ?_⟩
        · rw [Int.toNat_of_nonneg (by split <;> omega)]
          rfl
        · split <;> omega
      · exact ⟨0, rfl, by omega⟩
    obtain ⟨P0, e1, e2⟩ := pick
    refine ⟨ll, _, g, _, rfl, rfl, h7, e1, ?_⟩
    (try (walk_at "WP")); (try (refine seq_out hR_ ?_)); (try (refine seq_in fun R_ hR_ => ?_)); (try (walk_at "WP"))
    refine ⟨n, P0, rfl, big_of hn (by decide), by omega, fun H8 n8 => ?_⟩
    (try (walk_at "WP")); (try (refine seq_out hR_ ?_)); (try (refine seq_in fun R_ hR_ => ?_)); (try (walk_at "WP"))
    exact hN _ _ ⟨_, _, _, _, _, rfl, n8.pen (P7.mono (by omega)), n8.scr S7⟩
  · rintro σ H2 ⟨o2, o3, o4, o5, o6, rfl, PP, SS⟩
    (try (walk_at "WP")); (try (refine seq_out hR_ ?_)); (try (refine seq_in fun R_ hR_ => ?_)); (try (walk_at "WP"))
    refine ⟨p, a, ns, _, rfl, PP, SS, h63, by omega, fun n H3 hn P3 S3 C3 => ?_⟩
    have nl := naf_len 900 n hn
    (try (walk_at "WP")); (try (refine seq_out hR_ ?_)); (try (refine seq_in fun R_ hR_ => ?_)); (try (walk_at "WP"))
    refine ⟨n, rfl, big_of hn (by decide), fun r H4 nr s4 h4 => ?_⟩
    (try (walk_at "WP")); (try (refine seq_out hR_ ?_)); (try (refine seq_in fun R_ hR_ => ?_)); (iterate 5 ((try (walk_at "WP")); (try (simp only [h4, Option.some.injEq, HO.tup.injEq, HO.lst.injEq, HO.dK.injEq, exists_eq_left', exists_eq_left])))); (try (walk_at "WP"))
    rw [List.length_map]
    generalize (naf n).length = L at nl
    refine draw_ (P3.same s4) (S3.same s4) h63 (by omega) (by decide) (by decide) fun d H5 d0 d1 P5 S5 C5 => ?_
    (try (walk_at "WP")); (try (refine seq_out hR_ ?_)); (try (refine seq_in fun R_ hR_ => ?_)); (try (walk_at "WP"))
    refine ⟨n, L + d.toNat, by rw [show (((L + d.toNat : Nat)) : Int) = (L : Int) + d by omega], big_of hn (by decide), by omega, fun H6 n6 => ?_⟩
    (try (walk_at "WP")); (try (refine seq_out hR_ ?_)); (try (refine seq_in fun R_ hR_ => ?_)); (try (walk_at "WP"))
    refine draw_ (n6.pen P5) (n6.scr S5) h63 (by omega) (by decide) (by decide) fun g H7 g0 g1 P7 S7 C7 => ?_
    (try (walk_at "WP")); (try (refine seq_out hR_ ?_)); (try (refine seq_in fun R_ hR_ => ?_)); (try (walk_at "WP"))
    refine ⟨mul_l (by decide) (by decide), ?_⟩
    (try (walk_at "WP")); (try (refine seq_out hR_ ?_)); (try (refine seq_in fun R_ hR_ => ?_)); (try (walk_at "WP"))
    refine draw_ P7 S7 h63 (by omega) (by decide) (by decide) fun x H8 x0 x1 P8 S8 C8 => ?_
    refine draw_ P8 S8 h63 (by omega) (by decide) (by decide) fun e H9 e0 e1 P9 S9 C9 => ?_
    (try (walk_at "WP")); (try (refine seq_out hR_ ?_)); (try (refine seq_in fun R_ hR_ => ?_)); (try (walk_at "WP"))
    have xb : x.natAbs < 2 ^ 9 := by omega
    refine ⟨shl_ok e0 (by omega) xb (by decide), ?_⟩
    refine draw_ P9 S9 h63 (by omega) (by decide) (by decide) fun k H10 k0 k1 P10 S10 C10 => ?_
    (try (walk_at "WP")); (try (refine seq_out hR_ ?_)); (try (refine seq_in fun R_ hR_ => ?_)); (try (walk_at "WP"))
    refine ⟨mul_l (by decide) (by decide), mul_r (by omega) (by omega), ?_⟩
    have eb : ((2 : Int) ^ e.toNat).natAbs < 2 ^ 187 := by
      have h := p2le (e := e.toNat) (k := 186) (by omega)
      omega
    have fb : (x * 2 ^ e.toNat).natAbs < 2 ^ 196 := abs_mul xb eb (by decide)
    have fb2 : (x * 2 ^ e.toNat * (1 - 2 * k)).natAbs < 2 ^ 196 := by
      generalize x * (2 : Int) ^ e.toNat = y at fb ⊢
      rcases (show k = 0 ∨ k = 1 by omega) with z | z <;> subst z
      · rw [show y * (1 - 2 * 0) = y by omega]; exact fb
      · rw [show y * (1 - 2 * 1) = -y by omega, Int.natAbs_neg]; exact fb
    generalize x * (2 : Int) ^ e.toNat * (1 - 2 * k) = y at fb2 ⊢
    (try (walk_at "WP")); (try (refine seq_out hR_ ?_)); (try (refine seq_in fun R_ hR_ => ?_)); (try (walk_at "WP"))
    refine ⟨y, 200, rfl, big_of fb2 (by decide), by omega, fun H11 n11 => ?_⟩
    (try (walk_at "WP")); (try (refine seq_out hR_ ?_)); (try (refine seq_in fun R_ hR_ => ?_)); (try (walk_at "WP"))
    obtain ⟨m, rfl, m20⟩ : ∃ m : Nat, g = (m : Int) - 20 ∧ 20 ≤ m := ⟨g.toNat + 20, by omega, by omega⟩
    rw [show 4 * (20 + ((m : Int) - 20)) = ((4 * m : Nat) : Int) by omega]
    refine ⟨⟨by omega, by omega⟩, divB (by decide) (by decide), mul_r (by decide) (by decide), ?_⟩
    rw [Int.one_mul, Int.toNat_natCast, threes_div]
    (try (walk_at "WP")); (try (refine seq_out hR_ ?_)); (try (refine seq_in fun R_ hR_ => ?_)); (try (walk_at "WP"))
    have tb := big_of (threes_b m) (show 4 * m ≤ 3000 by omega)
    have many := many_threes m20
    have e2 : ((4 * m : Nat) : Int) + 2 = ((4 * m + 2 : Nat) : Int) := by omega
    refine ⟨threes m, 4 * m + 2, by rw [e2], tb, by omega, fun H12 s12 => ?_⟩
    refine ⟨threes m, 4 * m + 2, by rw [e2], tb, by omega, fun H13 s13 => ?_⟩
    (try (walk_at "WP")); (try (refine seq_out hR_ ?_)); (try (refine seq_in fun R_ hR_ => ?_)); (try (walk_at "WP"))
    refine ⟨threes m, 4 * m + 2, by rw [e2], tb, by omega, many, fun H14 s14 => ?_⟩
    (try (walk_at "WP")); (try (refine seq_out hR_ ?_)); (try (refine seq_in fun R_ hR_ => ?_)); (try (walk_at "WP"))
    have w30 : wrs 3 0 = [[0, 0, 0]] := by decide
    have w00 : wrs 0 0 = [[]] := by decide
    have w70 : wrs 0 7 = [] := by decide
    have nil : ∀ H : Hp, HRs H [] [] [] := fun H => ⟨rfl, fun k r e => by cases e⟩
    refine ⟨0, 3, rfl, Nat.two_pow_pos _, by decide, fun y => absurd y (by rw [hm_zero]; decide), fun _ l us H15 nl s15 hl hx => ?_⟩
    rw [w30] at hx
    intro q0 nq0
    refine abs_ nq0 fun G0 t0 g0 => ?_
    intro q1 nq1
    refine abs_ nq1 fun G1 t1 g1 => ?_
    refine eq_lr ((t0.trans t1) _ _ hl) (hx.same (t0.trans t1)) g1 ((nil G1).snoc (r := [0, 0, 0]) (t1 _ _ g0) (fun e he => by cases he)) ?_
    (try (walk_at "WP")); (try (refine seq_out hR_ ?_)); (try (refine seq_in fun R_ hR_ => ?_)); (try (walk_at "WP"))
    refine ⟨0, 0, rfl, Nat.two_pow_pos _, by decide, fun y => absurd y (by rw [hm_zero]; decide), fun _ l us H15 nl s15 hl hx => ?_⟩
    rw [w00] at hx
    intro q0 nq0
    refine abs_ nq0 fun G0 t0 g0 => ?_
    intro q1 nq1
    refine abs_ nq1 fun G1 t1 g1 => ?_
    refine eq_lr ((t0.trans t1) _ _ hl) (hx.same (t0.trans t1)) g1 ((nil G1).snoc (r := []) (t1 _ _ g0) (fun e he => by cases he)) ?_
    (try (walk_at "WP")); (try (refine seq_out hR_ ?_)); (try (refine seq_in fun R_ hR_ => ?_)); (try (walk_at "WP"))
    refine ⟨7, 0, rfl, Nat.lt_of_lt_of_le (by decide : (7 : Int).natAbs < 2 ^ 3) (Nat.pow_le_pow_right (by decide) (by decide)), by decide, fun y => absurd y (by rw [hm_0]; decide), fun _ l us H15 nl s15 hl hx => ?_⟩
    rw [w70] at hx
    intro q0 nq0
    refine abs_ nq0 fun G0 t0 g0 => ?_
    exact eq_lr (t0 _ _ hl) (hx.same t0) g0 (nil G0) (q _)
end

theorem ln1 {α : Type} {us : List α} (h : us.length = 1) : ∃ a0, us = [a0] := match us, h with | [a0], _ => ⟨a0, rfl⟩
theorem ln2 {α : Type} {us : List α} (h : us.length = 2) : ∃ a0 a1, us = [a0, a1] := match us, h with | [a0, a1], _ => ⟨a0, a1, rfl⟩
theorem ln4 {α : Type} {us : List α} (h : us.length = 4) : ∃ a0 a1 a2 a3, us = [a0, a1, a2, a3] := match us, h with | [a0, a1, a2, a3], _ => ⟨a0, a1, a2, a3, rfl⟩
theorem all_mk {l : PySem.W.OpenLaw} {w : World} {K : PySem.W.Frag} {h : Heap} {mg : Str → Option Value} {fa : Addr} (X : K.In h) (G : h.Ns mainGlobals mg) (hfa : mg "law" = some (.ref fa))
    {f1 : Addr} {od1 an1 : Option Addr} {sl1 : Array (Option Value)} {oc1 kV1 dc1 pm1 cd1 ct1 : Value} {f2 : Addr} {od2 an2 : Option Addr} {sl2 : Array (Option Value)} {oc2 kV2 dc2 pm2 cd2 ct2 : Value} {f3 : Addr} {od3 an3 : Option Addr} {sl3 : Array (Option Value)} {oc3 kV3 dc3 pm3 cd3 ct3 : Value} {f4 : Addr} {od4 an4 : Option Addr} {sl4 : Array (Option Value)} {oc4 kV4 dc4 pm4 cd4 ct4 : Value} {f5 : Addr} {od5 an5 : Option Addr} {sl5 : Array (Option Value)} {oc5 kV5 dc5 pm5 cd5 ct5 : Value} {f6 : Addr} {od6 an6 : Option Addr} {sl6 : Array (Option Value)} {oc6 kV6 dc6 pm6 cd6 ct6 : Value} {f7 : Addr} {od7 an7 : Option Addr} {sl7 : Array (Option Value)} {oc7 kV7 dc7 pm7 cd7 ct7 : Value} {f8 : Addr} {od8 an8 : Option Addr} {sl8 : Array (Option Value)} {oc8 kV8 dc8 pm8 cd8 ct8 : Value} {f9 : Addr} {od9 an9 : Option Addr} {sl9 : Array (Option Value)} {oc9 kV9 dc9 pm9 cd9 ct9 : Value} {f10 : Addr} {od10 an10 : Option Addr} {sl10 : Array (Option Value)} {oc10 kV10 dc10 pm10 cd10 ct10 : Value} {f11 : Addr} {od11 an11 : Option Addr} {sl11 : Array (Option Value)} {oc11 kV11 dc11 pm11 cd11 ct11 : Value} {f12 : Addr} {od12 an12 : Option Addr} {sl12 : Array (Option Value)} {oc12 kV12 dc12 pm12 cd12 ct12 : Value} {f13 : Addr} {od13 an13 : Option Addr} {sl13 : Array (Option Value)} {oc13 kV13 dc13 pm13 cd13 ct13 : Value} {f14 : Addr} {od14 an14 : Option Addr} {sl14 : Array (Option Value)} {oc14 kV14 dc14 pm14 cd14 ct14 : Value} {f15 : Addr} {od15 an15 : Option Addr} {sl15 : Array (Option Value)} {oc15 kV15 dc15 pm15 cd15 ct15 : Value} {f16 : Addr} {od16 an16 : Option Addr} {sl16 : Array (Option Value)} {oc16 kV16 dc16 pm16 cd16 ct16 : Value} {f17 : Addr} {od17 an17 : Option Addr} {sl17 : Array (Option Value)} {oc17 kV17 dc17 pm17 cd17 ct17 : Value} {f18 : Addr} {od18 an18 : Option Addr} {sl18 : Array (Option Value)} {oc18 kV18 dc18 pm18 cd18 ct18 : Value} {f19 : Addr} {od19 an19 : Option Addr} {sl19 : Array (Option Value)} {oc19 kV19 dc19 pm19 cd19 ct19 : Value} {f20 : Addr} {od20 an20 : Option Addr} {sl20 : Array (Option Value)} {oc20 kV20 dc20 pm20 cd20 ct20 : Value} {f21 : Addr} {od21 an21 : Option Addr} {sl21 : Array (Option Value)} {oc21 kV21 dc21 pm21 cd21 ct21 : Value} {f22 : Addr} {od22 an22 : Option Addr} {sl22 : Array (Option Value)} {oc22 kV22 dc22 pm22 cd22 ct22 : Value} {f23 : Addr} {od23 an23 : Option Addr} {sl23 : Array (Option Value)} {oc23 kV23 dc23 pm23 cd23 ct23 : Value} {ti1 : Tok} {cst_ShiftError cst_NoWeb cst_Down cst_NoText cst_NoJoin cst_TooMany cst_NoRow cst_NoName cst_NoWord : Addr}
    (a1 : PySem.W.nsIn K mainGlobals "signs" = some (some (.ref f1))) (l1 : K.lookup f1 = some ⟨oc1, od1, .func (PySem.W.fnOf "signs" "signs" (defArgs s_signs) (defBody s_signs) (defScope s_signs) .none kV1 dc1 pm1 an1 cd1 ct1), sl1⟩) (c1 : PySem.W.codeIn K cd1 "signs" = true) (k1 : PySem.W.keepIn K (.ref f1) = true)
    (a2 : PySem.W.nsIn K mainGlobals "first_sign" = some (some (.ref f2))) (l2 : K.lookup f2 = some ⟨oc2, od2, .func (PySem.W.fnOf "first_sign" "first_sign" (defArgs s_first_sign) (defBody s_first_sign) (defScope s_first_sign) .none kV2 dc2 pm2 an2 cd2 ct2), sl2⟩) (c2 : PySem.W.codeIn K cd2 "first_sign" = true) (k2 : PySem.W.keepIn K (.ref f2) = true)
    (a3 : PySem.W.nsIn K mainGlobals "least" = some (some (.ref f3))) (l3 : K.lookup f3 = some ⟨oc3, od3, .func (PySem.W.fnOf "least" "least" (defArgs s_least) (defBody s_least) (defScope s_least) .none kV3 dc3 pm3 an3 cd3 ct3), sl3⟩) (c3 : PySem.W.codeIn K cd3 "least" = true) (k3 : PySem.W.keepIn K (.ref f3) = true)
    (a4 : PySem.W.nsIn K mainGlobals "how_many" = some (some (.ref f4))) (l4 : K.lookup f4 = some ⟨oc4, od4, .func (PySem.W.fnOf "how_many" "how_many" (defArgs s_how_many) (defBody s_how_many) (defScope s_how_many) .none kV4 dc4 pm4 an4 cd4 ct4), sl4⟩) (c4 : PySem.W.codeIn K cd4 "how_many" = true) (k4 : PySem.W.keepIn K (.ref f4) = true)
    (a5 : PySem.W.nsIn K mainGlobals "writings" = some (some (.ref f5))) (l5 : K.lookup f5 = some ⟨oc5, od5, .func (PySem.W.fnOf "writings" "writings" (defArgs s_writings) (defBody s_writings) (defScope s_writings) .none kV5 dc5 pm5 an5 cd5 ct5), sl5⟩) (c5 : PySem.W.codeIn K cd5 "writings" = true) (k5 : PySem.W.keepIn K (.ref f5) = true)
    (a6 : PySem.W.nsIn K mainGlobals "levels" = some (some (.ref f6))) (l6 : K.lookup f6 = some ⟨oc6, od6, .func (PySem.W.fnOf "levels" "levels" (defArgs s_levels) (defBody s_levels) (defScope s_levels) .none kV6 dc6 pm6 an6 cd6 ct6), sl6⟩) (c6 : PySem.W.codeIn K cd6 "levels" = true) (k6 : PySem.W.keepIn K (.ref f6) = true)
    (a7 : PySem.W.nsIn K mainGlobals "steps" = some (some (.ref f7))) (l7 : K.lookup f7 = some ⟨oc7, od7, .func (PySem.W.fnOf "steps" "steps" (defArgs s_steps) (defBody s_steps) (defScope s_steps) .none kV7 dc7 pm7 an7 cd7 ct7), sl7⟩) (c7 : PySem.W.codeIn K cd7 "steps" = true) (k7 : PySem.W.keepIn K (.ref f7) = true)
    (a8 : PySem.W.nsIn K mainGlobals "counts_ahead" = some (some (.ref f8))) (l8 : K.lookup f8 = some ⟨oc8, od8, .func (PySem.W.fnOf "counts_ahead" "counts_ahead" (defArgs s_counts_ahead) (defBody s_counts_ahead) (defScope s_counts_ahead) .none kV8 dc8 pm8 an8 cd8 ct8), sl8⟩) (c8 : PySem.W.codeIn K cd8 "counts_ahead" = true) (k8 : PySem.W.keepIn K (.ref f8) = true)
    (a9 : PySem.W.nsIn K mainGlobals "endings_ahead" = some (some (.ref f9))) (l9 : K.lookup f9 = some ⟨oc9, od9, .func (PySem.W.fnOf "endings_ahead" "endings_ahead" (defArgs s_endings_ahead) (defBody s_endings_ahead) (defScope s_endings_ahead) .none kV9 dc9 pm9 an9 cd9 ct9), sl9⟩) (c9 : PySem.W.codeIn K cd9 "endings_ahead" = true) (k9 : PySem.W.keepIn K (.ref f9) = true)
    (a10 : PySem.W.nsIn K mainGlobals "_law_pen" = some (some (.ref f10))) (l10 : K.lookup f10 = some ⟨oc10, od10, .func (PySem.W.fnOf "_law_pen" "_law_pen" (defArgs s_l_pen) (defBody s_l_pen) (defScope s_l_pen) .none kV10 dc10 pm10 an10 cd10 ct10), sl10⟩) (c10 : PySem.W.codeIn K cd10 "_law_pen" = true) (k10 : PySem.W.keepIn K (.ref f10) = true)
    (a11 : PySem.W.nsIn K mainGlobals "_law_draw" = some (some (.ref f11))) (l11 : K.lookup f11 = some ⟨oc11, od11, .func (PySem.W.fnOf "_law_draw" "_law_draw" (defArgs s_l_draw) (defBody s_l_draw) (defScope s_l_draw) .none kV11 dc11 pm11 an11 cd11 ct11), sl11⟩) (c11 : PySem.W.codeIn K cd11 "_law_draw" = true) (k11 : PySem.W.keepIn K (.ref f11) = true)
    (a12 : PySem.W.nsIn K mainGlobals "_law_whole" = some (some (.ref f12))) (l12 : K.lookup f12 = some ⟨oc12, od12, .func (PySem.W.fnOf "_law_whole" "_law_whole" (defArgs s_l_whole) (defBody s_l_whole) (defScope s_l_whole) .none kV12 dc12 pm12 an12 cd12 ct12), sl12⟩) (c12 : PySem.W.codeIn K cd12 "_law_whole" = true) (k12 : PySem.W.keepIn K (.ref f12) = true)
    (a13 : PySem.W.nsIn K mainGlobals "_law_signs" = some (some (.ref f13))) (l13 : K.lookup f13 = some ⟨oc13, od13, .func (PySem.W.fnOf "_law_signs" "_law_signs" (defArgs s_l_signs) (defBody s_l_signs) (defScope s_l_signs) .none kV13 dc13 pm13 an13 cd13 ct13), sl13⟩) (c13 : PySem.W.codeIn K cd13 "_law_signs" = true) (k13 : PySem.W.keepIn K (.ref f13) = true)
    (a14 : PySem.W.nsIn K mainGlobals "_law_least" = some (some (.ref f14))) (l14 : K.lookup f14 = some ⟨oc14, od14, .func (PySem.W.fnOf "_law_least" "_law_least" (defArgs s_l_least) (defBody s_l_least) (defScope s_l_least) .none kV14 dc14 pm14 an14 cd14 ct14), sl14⟩) (c14 : PySem.W.codeIn K cd14 "_law_least" = true) (k14 : PySem.W.keepIn K (.ref f14) = true)
    (a15 : PySem.W.nsIn K mainGlobals "_law_is_digits" = some (some (.ref f15))) (l15 : K.lookup f15 = some ⟨oc15, od15, .func (PySem.W.fnOf "_law_is_digits" "_law_is_digits" (defArgs s_l_is_digits) (defBody s_l_is_digits) (defScope s_l_is_digits) .none kV15 dc15 pm15 an15 cd15 ct15), sl15⟩) (c15 : PySem.W.codeIn K cd15 "_law_is_digits" = true) (k15 : PySem.W.keepIn K (.ref f15) = true)
    (a16 : PySem.W.nsIn K mainGlobals "_law_count" = some (some (.ref f16))) (l16 : K.lookup f16 = some ⟨oc16, od16, .func (PySem.W.fnOf "_law_count" "_law_count" (defArgs s_l_count) (defBody s_l_count) (defScope s_l_count) .none kV16 dc16 pm16 an16 cd16 ct16), sl16⟩) (c16 : PySem.W.codeIn K cd16 "_law_count" = true) (k16 : PySem.W.keepIn K (.ref f16) = true)
    (a17 : PySem.W.nsIn K mainGlobals "_law_too_many" = some (some (.ref f17))) (l17 : K.lookup f17 = some ⟨oc17, od17, .func (PySem.W.fnOf "_law_too_many" "_law_too_many" (defArgs s_l_too_many) (defBody s_l_too_many) (defScope s_l_too_many) .none kV17 dc17 pm17 an17 cd17 ct17), sl17⟩) (c17 : PySem.W.codeIn K cd17 "_law_too_many" = true) (k17 : PySem.W.keepIn K (.ref f17) = true)
    (a18 : PySem.W.nsIn K mainGlobals "_law_short" = some (some (.ref f18))) (l18 : K.lookup f18 = some ⟨oc18, od18, .func (PySem.W.fnOf "_law_short" "_law_short" (defArgs s_l_short) (defBody s_l_short) (defScope s_l_short) .none kV18 dc18 pm18 an18 cd18 ct18), sl18⟩) (c18 : PySem.W.codeIn K cd18 "_law_short" = true) (k18 : PySem.W.keepIn K (.ref f18) = true)
    (a19 : PySem.W.nsIn K mainGlobals "_law_sum" = some (some (.ref f19))) (l19 : K.lookup f19 = some ⟨oc19, od19, .func (PySem.W.fnOf "_law_sum" "_law_sum" (defArgs s_l_sum) (defBody s_l_sum) (defScope s_l_sum) .none kV19 dc19 pm19 an19 cd19 ct19), sl19⟩) (c19 : PySem.W.codeIn K cd19 "_law_sum" = true) (k19 : PySem.W.keepIn K (.ref f19) = true)
    (a20 : PySem.W.nsIn K mainGlobals "_law_right" = some (some (.ref f20))) (l20 : K.lookup f20 = some ⟨oc20, od20, .func (PySem.W.fnOf "_law_right" "_law_right" (defArgs s_l_right) (defBody s_l_right) (defScope s_l_right) .none kV20 dc20 pm20 an20 cd20 ct20), sl20⟩) (c20 : PySem.W.codeIn K cd20 "_law_right" = true) (k20 : PySem.W.keepIn K (.ref f20) = true)
    (a21 : PySem.W.nsIn K mainGlobals "_law_listed" = some (some (.ref f21))) (l21 : K.lookup f21 = some ⟨oc21, od21, .func (PySem.W.fnOf "_law_listed" "_law_listed" (defArgs s_l_listed) (defBody s_l_listed) (defScope s_l_listed) .none kV21 dc21 pm21 an21 cd21 ct21), sl21⟩) (c21 : PySem.W.codeIn K cd21 "_law_listed" = true) (k21 : PySem.W.keepIn K (.ref f21) = true)
    (a22 : PySem.W.nsIn K mainGlobals "_law_near" = some (some (.ref f22))) (l22 : K.lookup f22 = some ⟨oc22, od22, .func (PySem.W.fnOf "_law_near" "_law_near" (defArgs s_l_near) (defBody s_l_near) (defScope s_l_near) .none kV22 dc22 pm22 an22 cd22 ct22), sl22⟩) (c22 : PySem.W.codeIn K cd22 "_law_near" = true) (k22 : PySem.W.keepIn K (.ref f22) = true)
    (a23 : PySem.W.nsIn K mainGlobals "law" = some (some (.ref f23))) (l23 : K.lookup f23 = some ⟨oc23, od23, .func (PySem.W.fnOf "law" "law" (defArgs s_law) (defBody s_law) (defScope s_law) .none kV23 dc23 pm23 an23 cd23 ct23), sl23⟩) (c23 : PySem.W.codeIn K cd23 "law" = true) (k23 : PySem.W.keepIn K (.ref f23) = true)
    (ai1 : PySem.W.nsIn K mainGlobals "MOST_TOLD" = some (some (.int 300 ti1)))
    (ak1 : PySem.W.nsIn K mainGlobals "ShiftError" = some (some (.ref cst_ShiftError)))
    (ak2 : PySem.W.nsIn K mainGlobals "NoWeb" = some (some (.ref cst_NoWeb)))
    (ak3 : PySem.W.nsIn K mainGlobals "Down" = some (some (.ref cst_Down)))
    (ak4 : PySem.W.nsIn K mainGlobals "NoText" = some (some (.ref cst_NoText)))
    (ak5 : PySem.W.nsIn K mainGlobals "NoJoin" = some (some (.ref cst_NoJoin)))
    (ak6 : PySem.W.nsIn K mainGlobals "TooMany" = some (some (.ref cst_TooMany)))
    (ak7 : PySem.W.nsIn K mainGlobals "NoRow" = some (some (.ref cst_NoRow)))
    (ak8 : PySem.W.nsIn K mainGlobals "NoName" = some (some (.ref cst_NoName)))
    (ak9 : PySem.W.nsIn K mainGlobals "NoWord" = some (some (.ref cst_NoWord)))
    (fk1 : PySem.W.excIn K cst_TooMany [.type "ValueError", .type "Exception", .type "BaseException", .type "object"] "ValueError.__new__" = true)
    (fk2 : PySem.W.excIn K cst_ShiftError [.type "ValueError", .type "Exception", .type "BaseException", .type "object"] "ValueError.__new__" = true)
    (fk3 : L2.subIn K cst_TooMany cst_ShiftError = true)
    (fk4 : L2.excK K cst_TooMany = true)
    (fk5 : PySem.W.kitOne K (.ref cst_TooMany) (.type "ValueError") = some true)
    (fk6 : PySem.W.kitAny K (.ref cst_TooMany) [.ref cst_Down, .ref cst_NoJoin, .ref cst_NoName, .ref cst_NoRow, .ref cst_NoText, .ref cst_NoWeb, .ref cst_NoWord] = some false)
    (z1 : PySem.W.nsIn K mainGlobals "ValueError" = some none)
    (z2 : PySem.W.nsIn K mainGlobals "abs" = some none)
    (z3 : PySem.W.nsIn K mainGlobals "all" = some none)
    (z4 : PySem.W.nsIn K mainGlobals "bool" = some none)
    (z5 : PySem.W.nsIn K mainGlobals "int" = some none)
    (z6 : PySem.W.nsIn K mainGlobals "isinstance" = some none)
    (z7 : PySem.W.nsIn K mainGlobals "len" = some none)
    (z8 : PySem.W.nsIn K mainGlobals "list" = some none)
    (z9 : PySem.W.nsIn K mainGlobals "max" = some none)
    (z10 : PySem.W.nsIn K mainGlobals "min" = some none)
    (z11 : PySem.W.nsIn K mainGlobals "range" = some none)
    (z12 : PySem.W.nsIn K mainGlobals "reversed" = some none)
    (z13 : PySem.W.nsIn K mainGlobals "sorted" = some none)
    (z14 : PySem.W.nsIn K mainGlobals "sum" = some none)
    : ∃ fd : FuncData, (∀ (s : Shared) (v : Value), BindsTo s fd ⟨[v], []⟩ [("_law_script", v)]) ∧ ∀ base : Heap, K.In base → base.Ns mainGlobals mg → FnOk l.prog w K mg base CX0 20 fa fd ["_law_script"] (spLaw K) := by
  have e := hfa.symm.trans (PySem.W.mg_of X G a23)
  cases e
  have F1 := fun_mk (st := s_signs) l1 c1 k1
  have b1 := F1.binds (ps := ["number"]) fun _ _ _ _ _ _ us hl => by obtain ⟨a0_, rfl⟩ := ln1 (us := us) hl; rfl
  have F2 := fun_mk (st := s_first_sign) l2 c2 k2
  have b2 := F2.binds (ps := ["number"]) fun _ _ _ _ _ _ us hl => by obtain ⟨a0_, rfl⟩ := ln1 (us := us) hl; rfl
  have F3 := fun_mk (st := s_least) l3 c3 k3
  have b3 := F3.binds (ps := ["number"]) fun _ _ _ _ _ _ us hl => by obtain ⟨a0_, rfl⟩ := ln1 (us := us) hl; rfl
  have F4 := fun_mk (st := s_how_many) l4 c4 k4
  have b4 := F4.binds (ps := ["number", "places"]) fun _ _ _ _ _ _ us hl => by obtain ⟨a0_, a1_, rfl⟩ := ln2 (us := us) hl; rfl
  have F5 := fun_mk (st := s_writings) l5 c5 k5
  have b5 := F5.binds (ps := ["number", "places"]) fun _ _ _ _ _ _ us hl => by obtain ⟨a0_, a1_, rfl⟩ := ln2 (us := us) hl; rfl
  have F6 := fun_mk (st := s_levels) l6 c6 k6
  have b6 := F6.binds (ps := ["number", "places"]) fun _ _ _ _ _ _ us hl => by obtain ⟨a0_, a1_, rfl⟩ := ln2 (us := us) hl; rfl
  have F7 := fun_mk (st := s_steps) l7 c7 k7
  have b7 := F7.binds (ps := ["rest", "places"]) fun _ _ _ _ _ _ us hl => by obtain ⟨a0_, a1_, rfl⟩ := ln2 (us := us) hl; rfl
  have F8 := fun_mk (st := s_counts_ahead) l8 c8 k8
  have b8 := F8.binds (ps := ["level", "counts"]) fun _ _ _ _ _ _ us hl => by obtain ⟨a0_, a1_, rfl⟩ := ln2 (us := us) hl; rfl
  have F9 := fun_mk (st := s_endings_ahead) l9 c9 k9
  have b9 := F9.binds (ps := ["level", "endings"]) fun _ _ _ _ _ _ us hl => by obtain ⟨a0_, a1_, rfl⟩ := ln2 (us := us) hl; rfl
  have F10 := fun_mk (st := s_l_pen) l10 c10 k10
  have b10 := F10.binds (ps := ["_law_script"]) fun _ _ _ _ _ _ us hl => by obtain ⟨a0_, rfl⟩ := ln1 (us := us) hl; rfl
  have F11 := fun_mk (st := s_l_draw) l11 c11 k11
  have b11 := F11.binds (ps := ["_law_pen_here", "_law_many"]) fun _ _ _ _ _ _ us hl => by obtain ⟨a0_, a1_, rfl⟩ := ln2 (us := us) hl; rfl
  have F12 := fun_mk (st := s_l_whole) l12 c12 k12
  have b12 := F12.binds (ps := ["_law_thing"]) fun _ _ _ _ _ _ us hl => by obtain ⟨a0_, rfl⟩ := ln1 (us := us) hl; rfl
  have F13 := fun_mk (st := s_l_signs) l13 c13 k13
  have b13 := F13.binds (ps := ["_law_number"]) fun _ _ _ _ _ _ us hl => by obtain ⟨a0_, rfl⟩ := ln1 (us := us) hl; rfl
  have F14 := fun_mk (st := s_l_least) l14 c14 k14
  have b14 := F14.binds (ps := ["_law_number"]) fun _ _ _ _ _ _ us hl => by obtain ⟨a0_, rfl⟩ := ln1 (us := us) hl; rfl
  have F15 := fun_mk (st := s_l_is_digits) l15 c15 k15
  have b15 := F15.binds (ps := ["_law_found"]) fun _ _ _ _ _ _ us hl => by obtain ⟨a0_, rfl⟩ := ln1 (us := us) hl; rfl
  have F16 := fun_mk (st := s_l_count) l16 c16 k16
  have b16 := F16.binds (ps := ["_law_number", "_law_places"]) fun _ _ _ _ _ _ us hl => by obtain ⟨a0_, a1_, rfl⟩ := ln2 (us := us) hl; rfl
  have F17 := fun_mk (st := s_l_too_many) l17 c17 k17
  have b17 := F17.binds (ps := ["_law_number", "_law_places"]) fun _ _ _ _ _ _ us hl => by obtain ⟨a0_, a1_, rfl⟩ := ln2 (us := us) hl; rfl
  have F18 := fun_mk (st := s_l_short) l18 c18 k18
  have b18 := F18.binds (ps := ["_law_pen_here"]) fun _ _ _ _ _ _ us hl => by obtain ⟨a0_, rfl⟩ := ln1 (us := us) hl; rfl
  have F19 := fun_mk (st := s_l_sum) l19 c19 k19
  have b19 := F19.binds (ps := ["_law_digits"]) fun _ _ _ _ _ _ us hl => by obtain ⟨a0_, rfl⟩ := ln1 (us := us) hl; rfl
  have F20 := fun_mk (st := s_l_right) l20 c20 k20
  have b20 := F20.binds (ps := ["_law_found", "_law_number", "_law_places", "_law_due"]) fun _ _ _ _ _ _ us hl => by obtain ⟨a0_, a1_, a2_, a3_, rfl⟩ := ln4 (us := us) hl; rfl
  have F21 := fun_mk (st := s_l_listed) l21 c21 k21
  have b21 := F21.binds (ps := ["_law_number", "_law_places"]) fun _ _ _ _ _ _ us hl => by obtain ⟨a0_, a1_, rfl⟩ := ln2 (us := us) hl; rfl
  have F22 := fun_mk (st := s_l_near) l22 c22 k22
  have b22 := F22.binds (ps := ["_law_pen_here"]) fun _ _ _ _ _ _ us hl => by obtain ⟨a0_, rfl⟩ := ln1 (us := us) hl; rfl
  have F23 := fun_mk (st := s_law) l23 c23 k23
  have b23 := F23.binds (ps := ["_law_script"]) fun _ _ _ _ _ _ us hl => by obtain ⟨a0_, rfl⟩ := ln1 (us := us) hl; rfl
  have T : Txt K mg := ⟨⟨PySem.W.mg_none_of X G z1, PySem.W.mg_none_of X G z2, PySem.W.mg_none_of X G z3, PySem.W.mg_none_of X G z4, PySem.W.mg_none_of X G z5, PySem.W.mg_none_of X G z6, PySem.W.mg_none_of X G z7, PySem.W.mg_none_of X G z8, PySem.W.mg_none_of X G z9, PySem.W.mg_none_of X G z10, PySem.W.mg_none_of X G z11, PySem.W.mg_none_of X G z12, PySem.W.mg_none_of X G z13, PySem.W.mg_none_of X G z14⟩, ⟨_, _, F1, PySem.W.mg_of X G a1, b1⟩, ⟨_, _, F2, PySem.W.mg_of X G a2, b2⟩, ⟨_, _, F3, PySem.W.mg_of X G a3, b3⟩, ⟨_, _, F4, PySem.W.mg_of X G a4, b4⟩, ⟨_, _, F5, PySem.W.mg_of X G a5, b5⟩, ⟨_, _, F6, PySem.W.mg_of X G a6, b6⟩, ⟨_, _, F7, PySem.W.mg_of X G a7, b7⟩, ⟨_, _, F8, PySem.W.mg_of X G a8, b8⟩, ⟨_, _, F9, PySem.W.mg_of X G a9, b9⟩, ⟨_, _, F10, PySem.W.mg_of X G a10, b10⟩, ⟨_, _, F11, PySem.W.mg_of X G a11, b11⟩, ⟨_, _, F12, PySem.W.mg_of X G a12, b12⟩, ⟨_, _, F13, PySem.W.mg_of X G a13, b13⟩, ⟨_, _, F14, PySem.W.mg_of X G a14, b14⟩, ⟨_, _, F15, PySem.W.mg_of X G a15, b15⟩, ⟨_, _, F16, PySem.W.mg_of X G a16, b16⟩, ⟨_, _, F17, PySem.W.mg_of X G a17, b17⟩, ⟨_, _, F18, PySem.W.mg_of X G a18, b18⟩, ⟨_, _, F19, PySem.W.mg_of X G a19, b19⟩, ⟨_, _, F20, PySem.W.mg_of X G a20, b20⟩, ⟨_, _, F21, PySem.W.mg_of X G a21, b21⟩, ⟨_, _, F22, PySem.W.mg_of X G a22, b22⟩, ⟨_, _, F23, PySem.W.mg_of X G a23, b23⟩, ⟨ti1, PySem.W.mg_of X G ai1⟩, ⟨cst_ShiftError, cst_NoWeb, cst_Down, cst_NoText, cst_NoJoin, cst_TooMany, cst_NoRow, cst_NoName, cst_NoWord, PySem.W.mg_of X G ak1, PySem.W.mg_of X G ak2, PySem.W.mg_of X G ak3, PySem.W.mg_of X G ak4, PySem.W.mg_of X G ak5, PySem.W.mg_of X G ak6, PySem.W.mg_of X G ak7, PySem.W.mg_of X G ak8, PySem.W.mg_of X G ak9, fk1, fk2, fk3, fk4, fk5, fk6⟩⟩
  refine ⟨PySem.W.fnOf "law" "law" (defArgs s_law) (defBody s_law) (defScope s_law) .none kV23 dc23 pm23 an23 cd23 ct23, fun s v => .of_eq rfl, fun base _ _ => ?_⟩
  exact ok_law T F23
theorem walk {l : PySem.W.OpenLaw} {q : Program} {loose : List Str} {XP : (Str → Option Value) → Heap → Prop} {YP : World → Heap → Prop} {d : DefRec} {K : Params → PySem.W.Frag} (hn : l.most = some 63) (hdf : d.params.defaults = [])
    (hY : ∀ (w : World) (h : Heap), YP w h → (K w.params).In h)
    (F : ∀ (w : World) (mg : Str → Option Value) (fa : Addr) (h : Heap), (K w.params).In h → h.Ns mainGlobals mg → mg d.name = some (.ref fa) →
      ∃ fd : FuncData, (∀ (s : Shared) (u : Value), BindsTo s fd ⟨[u], []⟩ [("_law_script", u)]) ∧ ∀ base : Heap, (K w.params).In base → base.Ns mainGlobals mg → FnOk l.prog w (K w.params) mg base CX0 20 fa fd ["_law_script"] (spLaw (K w.params))) :
    PySem.W.WalkO q loose XP YP l.row.toRowW d [] (fun f vs => PySem.call f vs) :=
  L2.walk_of (n := 63) (k := 20) (x := "_law_script") (CX := fun _ => CX0) (sp := fun w => spLaw (K w.params)) hn (by decide) hdf ⟨rfl, by decide, by decide⟩ hY F (fun _ _ a ns hl hO hS => ⟨a, ns, rfl, scr_of hO hS, hl, fun _ => rfl⟩) fun _ _ _ _ _ z => z
end Law
def PySem.W.Fast.tw4416023209432159236 : Unit := ()
def PySem.W.Fast.tw6913023703640706403 : Unit := ()
def PySem.W.Fast.tw13593017376124250428 : Unit := ()
def PySem.W.Fast.tw12553052677273894753 : Unit := ()
def PySem.W.Fast.tw6811258600144995456 : Unit := ()
def PySem.W.Fast.tw14312629637189431751 : Unit := ()
def PySem.W.Fast.tw5701933237744093289 : Unit := ()
def PySem.W.Fast.tw8301888057684586769 : Unit := ()
def PySem.W.Fast.tw11326857082586210646 : Unit := ()
def PySem.W.Fast.tw6776710621498778162 : Unit := ()
def PySem.W.Fast.tw12445820923053365382 : Unit := ()
def PySem.W.Fast.tw2797386032885764271 : Unit := ()
def PySem.W.Fast.tw2339124039284501626 : Unit := ()
def PySem.W.Fast.tw3341675200617120435 : Unit := ()
def PySem.W.Fast.tw14025833085238815109 : Unit := ()
def PySem.W.Fast.tw6146005638758585418 : Unit := ()
def PySem.W.Fast.tw14317601182181872719 : Unit := ()
def PySem.W.Fast.tw12072062413689590741 : Unit := ()
def PySem.W.Fast.tw2349106986552708188 : Unit := ()
def PySem.W.Fast.tw14223908819116840850 : Unit := ()
def PySem.W.Fast.tw11970971466210277702 : Unit := ()
def PySem.W.Fast.tw10684924156060766799 : Unit := ()
def PySem.W.Fast.tw1809330357922129566 : Unit := ()
def PySem.W.Fast.tw4479044631185476222 : Unit := ()
def PySem.W.Fast.tw10037666172857253457 : Unit := ()
def PySem.W.Fast.tw5992937876919054272 : Unit := ()
def PySem.W.Fast.tw5594243005664656345 : Unit := ()
def PySem.W.Fast.tw3916905341554872489 : Unit := ()
def PySem.W.Fast.tw2333164505360007490 : Unit := ()
def PySem.W.Fast.tw14685582580026174862 : Unit := ()
open PySem PySem.W PyProof.Rows
set_option maxRecDepth 100000 in
set_option maxHeartbeats 0 in
theorem PySem.Challenge.cw_shiftsums_k09_writings_listed_holds : PySem.Challenge.rw_shiftsums_k09_writings_listed.Holds := by
  w_on; o_law; k_head; (case hw => w_witness2)
  k_fill
  refine Law.walk (l := PySem.Challenge.rw_shiftsums_k09_writings_listed) rfl rfl (fun w h Y => PySem.W.kIn_of Y) ?F
  case F =>
    intro w mg fa h KX G hmg
    refine' Law.all_mk KX G hmg ?a1 ?l1 ?c1 ?k1 ?a2 ?l2 ?c2 ?k2 ?a3 ?l3 ?c3 ?k3 ?a4 ?l4 ?c4 ?k4 ?a5 ?l5 ?c5 ?k5 ?a6 ?l6 ?c6 ?k6 ?a7 ?l7 ?c7 ?k7 ?a8 ?l8 ?c8 ?k8 ?a9 ?l9 ?c9 ?k9 ?a10 ?l10 ?c10 ?k10 ?a11 ?l11 ?c11 ?k11 ?a12 ?l12 ?c12 ?k12 ?a13 ?l13 ?c13 ?k13 ?a14 ?l14 ?c14 ?k14 ?a15 ?l15 ?c15 ?k15 ?a16 ?l16 ?c16 ?k16 ?a17 ?l17 ?c17 ?k17 ?a18 ?l18 ?c18 ?k18 ?a19 ?l19 ?c19 ?k19 ?a20 ?l20 ?c20 ?k20 ?a21 ?l21 ?c21 ?k21 ?a22 ?l22 ?c22 ?k22 ?a23 ?l23 ?c23 ?k23 ?ai1 ?ak1 ?ak2 ?ak3 ?ak4 ?ak5 ?ak6 ?ak7 ?ak8 ?ak9 ?fk1 ?fk2 ?fk3 ?fk4 ?fk5 ?fk6 ?z1 ?z2 ?z3 ?z4 ?z5 ?z6 ?z7 ?z8 ?z9 ?z10 ?z11 ?z12 ?z13 ?z14
    (case a1 => k_is); (case l1 => k_is); (case c1 => k_is); (case k1 => k_is)
    (case a2 => k_is); (case l2 => k_is); (case c2 => k_is); (case k2 => k_is)
    (case a3 => k_is); (case l3 => k_is); (case c3 => k_is); (case k3 => k_is)
    (case a4 => k_is); (case l4 => k_is); (case c4 => k_is); (case k4 => k_is)
    (case a5 => k_is); (case l5 => k_is); (case c5 => k_is); (case k5 => k_is)
    (case a6 => k_is); (case l6 => k_is); (case c6 => k_is); (case k6 => k_is)
    (case a7 => k_is); (case l7 => k_is); (case c7 => k_is); (case k7 => k_is)
    (case a8 => k_is); (case l8 => k_is); (case c8 => k_is); (case k8 => k_is)
    (case a9 => k_is); (case l9 => k_is); (case c9 => k_is); (case k9 => k_is)
    (case a10 => k_is); (case l10 => k_is); (case c10 => k_is); (case k10 => k_is)
    (case a11 => k_is); (case l11 => k_is); (case c11 => k_is); (case k11 => k_is)
    (case a12 => k_is); (case l12 => k_is); (case c12 => k_is); (case k12 => k_is)
    (case a13 => k_is); (case l13 => k_is); (case c13 => k_is); (case k13 => k_is)
    (case a14 => k_is); (case l14 => k_is); (case c14 => k_is); (case k14 => k_is)
    (case a15 => k_is); (case l15 => k_is); (case c15 => k_is); (case k15 => k_is)
    (case a16 => k_is); (case l16 => k_is); (case c16 => k_is); (case k16 => k_is)
    (case a17 => k_is); (case l17 => k_is); (case c17 => k_is); (case k17 => k_is)
    (case a18 => k_is); (case l18 => k_is); (case c18 => k_is); (case k18 => k_is)
    (case a19 => k_is); (case l19 => k_is); (case c19 => k_is); (case k19 => k_is)
    (case a20 => k_is); (case l20 => k_is); (case c20 => k_is); (case k20 => k_is)
    (case a21 => k_is); (case l21 => k_is); (case c21 => k_is); (case k21 => k_is)
    (case a22 => k_is); (case l22 => k_is); (case c22 => k_is); (case k22 => k_is)
    (case a23 => k_is); (case l23 => k_is); (case c23 => k_is); (case k23 => k_is)
    (case ai1 => k_is); (case ak1 => k_is); (case ak2 => k_is); (case ak3 => k_is)
    (case ak4 => k_is); (case ak5 => k_is); (case ak6 => k_is); (case ak7 => k_is)
    (case ak8 => k_is); (case ak9 => k_is); (case fk1 => first | kernel_rfl | k_exc); (case fk2 => first | kernel_rfl | k_exc)
    (case fk3 => first | kernel_rfl | k_exc); (case fk4 => first | kernel_rfl | k_exc); (case fk5 => first | kernel_rfl | k_exc); (case fk6 => first | kernel_rfl | k_exc)
    (case z1 => k_is); (case z2 => k_is); (case z3 => k_is); (case z4 => k_is)
    (case z5 => k_is); (case z6 => k_is); (case z7 => k_is); (case z8 => k_is)
    (case z9 => k_is); (case z10 => k_is); (case z11 => k_is); (case z12 => k_is)
    (case z13 => k_is); (case z14 => k_is)
end
